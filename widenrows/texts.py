"""Programs as texts: a line for each row."""

from widenrows.errors import NoText
from widenrows.rows import PARTS, has_far, is_row

FIGURES = "0123456789"
# No number of a row has more figures, so longer ones need not be read: int may refuse them.
MOST_FIGURES = 10


def shown_row(row):
    word = row[0]
    if word == "table":
        numbers = [row[1]] + list(row[2])
    elif has_far(word):
        numbers = list(row[1:-1])
    else:
        numbers = list(row[1:])
    words = [word]
    if has_far(word) and row[-1] == 1:
        words.append("far")
    return " ".join(words + [str(number) for number in numbers])


def shown_rows(rows):
    return "\n".join([shown_row(row) for row in rows])


def is_figures(text):
    if not all([sign in FIGURES for sign in text]):
        return False
    return text == "0" or (text != "" and text[0] != "0")


def read_number(text, most_figures):
    below = text.startswith("-")
    figures = text[1:] if below else text
    if len(figures) > most_figures or not is_figures(figures):
        return None
    if below and figures == "0":
        return None
    return -int(figures) if below else int(figures)


def row_of_numbers(word, far, numbers):
    if word == "table":
        return (word,) + tuple(numbers[:1]) + (tuple(numbers[1:]),)
    if has_far(word):
        return (word,) + tuple(numbers) + (far,)
    return (word,) + tuple(numbers)


def read_row(line):
    words = line.split(" ")
    word = words[0]
    if word not in PARTS:
        return None
    is_far = has_far(word) and words[1:2] == ["far"]
    shown = words[2:] if is_far else words[1:]
    numbers = [read_number(text, MOST_FIGURES) for text in shown]
    # A number that is none is None here, and no row has that for a part.
    row = row_of_numbers(word, 1 if is_far else 0, numbers)
    return row if is_row(row) else None


def read_rows(text):
    if not isinstance(text, str):
        raise NoText(0)
    rows = []
    for at, line in enumerate(text.split("\n")):
        row = read_row(line)
        if row is None:
            raise NoText(at)
        rows.append(row)
    return rows
