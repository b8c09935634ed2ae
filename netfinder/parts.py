"""The parts of a text, parted by semicolons: what readers and showers of charts and nets have in common."""

from netfinder.charts import MOST_MOVES, is_name
from netfinder.errors import NoText
from netfinder.lexis import is_figure, words


def parts_of(text):
    parts = [[]]
    for word in words(text):
        if word == ";":
            parts.append([])
        else:
            parts[-1].append(word)
    return parts


def number_of(word):
    if not is_figure(word[0]):
        raise NoText(f"{word!r} stands where a number is asked for")
    return int(word)


def name_of(word):
    if not is_name(word):
        raise NoText(f"{word!r} stands where a move's name is asked for")
    return word


def names_of(part):
    if part[:1] != ["moves"]:
        raise NoText("the first part does not begin with the word moves")
    if len(part) - 1 > MOST_MOVES:
        raise NoText("there are more than 5 names")
    return [name_of(word) for word in part[1:]]


def show_parts(moves, parts):
    return "; ".join([" ".join(["moves"] + list(moves))] + parts)
