"""Wishes: at which places of a program what is to be seen."""

from widenrows.errors import NoWish
from widenrows.rows import are_parts, is_whole, word_of
from widenrows.ways import ways_of

MOST_WISHES = 12

# How long the tuple of each place is.
PLACES = {"before": 2, "after": 2, "way": 3}
# The kinds of the parts that stand behind each what's word.
WHATS = {"look": ("number", "box"), "count": ("number",), "guard": ("number", "box")}


def is_place(rows, place):
    word = word_of(place)
    if word not in PLACES or len(place) != PLACES[word]:
        return False
    r = place[1]
    if not is_whole(r) or not 0 <= r < len(rows):
        return False
    if word == "before":
        return True
    ways = ways_of(rows, r)
    if word == "after":
        return len(ways) > 0
    return is_whole(place[2]) and place[2] in ways


def is_what(what):
    word = word_of(what)
    return word in WHATS and are_parts(WHATS[word], what[1:])


def is_wish(rows, wish):
    return isinstance(wish, tuple) and len(wish) == 2 and is_place(rows, wish[0]) and is_what(wish[1])


def check_wishes(rows, wishes):
    if not isinstance(wishes, list):
        raise NoWish(0)
    for at, wish in enumerate(wishes[:MOST_WISHES]):
        if not is_wish(rows, wish):
            raise NoWish(at)
    if len(wishes) > MOST_WISHES:
        raise NoWish(MOST_WISHES)


def whats_before(wishes, r):
    return [what for place, what in wishes if place == ("before", r)]


def whats_on_way(wishes, r, s):
    return [what for place, what in wishes if place in (("after", r), ("way", r, s))]


def numbers_of_whats(wishes, word):
    return sorted(set([what[1] for place, what in wishes if what[0] == word]))
