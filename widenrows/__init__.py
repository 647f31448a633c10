"""Widenrows: rows of a machine widened in place."""
