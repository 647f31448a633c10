"""Papers as texts: a row for each of the four things that a paper tells."""

from widenrows.errors import NoText
from widenrows.rows import is_number_of
from widenrows.texts import read_number

NAMES = ("leads", "forms", "free", "counts")
NOTHING = "-"
# No number of a paper has more figures.
MOST_FIGURES = 10


def shown_lead(lead):
    return NOTHING if lead is None else str(lead)


def shown_boxes(boxes):
    return NOTHING if len(boxes) == 0 else "".join([str(box) for box in boxes])


def shown_count(count):
    return ":".join([str(number) for number in count])


def shown_paper(paper):
    rows = [
        ["leads"] + [shown_lead(lead) for lead in paper["leads"]],
        ["forms"] + [str(form) for form in paper["forms"]],
        ["free"] + [shown_boxes(boxes) for boxes in paper["free"]],
        ["counts"] + [shown_count(count) for count in paper["counts"]],
    ]
    return "\n".join([" ".join(words) for words in rows])


def read_number_of(kind, word, at):
    number = read_number(word, MOST_FIGURES)
    if not is_number_of(kind, number):
        raise NoText(at)
    return number


def read_lead(word, at):
    return None if word == NOTHING else read_number_of("target", word, at)


def read_form(word, at):
    return read_number_of("far", word, at)


def read_boxes(word, at):
    if word == NOTHING:
        return ()
    boxes = [read_number_of("box", sign, at) for sign in word]
    if len(boxes) == 0 or boxes != sorted(set(boxes)):
        raise NoText(at)
    return tuple(boxes)


def read_count(word, at):
    numbers = word.split(":")
    if len(numbers) != 2:
        raise NoText(at)
    return (read_number_of("number", numbers[0], at), read_number_of("aside", numbers[1], at))


READERS = {"leads": read_lead, "forms": read_form, "free": read_boxes, "counts": read_count}


def read_things(line, at):
    name = NAMES[at]
    words = line.split(" ")
    if words[0] != name:
        raise NoText(at)
    return [READERS[name](word, at) for word in words[1:]]


def read_paper(text):
    if not isinstance(text, str):
        raise NoText(0)
    lines = text.split("\n")
    paper = {}
    for at, line in enumerate(lines[:len(NAMES)]):
        paper[NAMES[at]] = read_things(line, at)
    if len(lines) != len(NAMES):
        raise NoText(min(len(lines), len(NAMES)))
    return paper
