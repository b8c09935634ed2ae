"""The words of a text: runs of small letters, numbers, and semicolons."""

from netfinder.errors import NoText

MOST_FIGURES = 60


# Python's own islower and isdigit also take signs outside ASCII.
def is_letter(sign):
    return "a" <= sign <= "z"


def is_figure(sign):
    return "0" <= sign <= "9"


def kind_of(sign):
    if is_letter(sign):
        return "letter"
    if is_figure(sign):
        return "figure"
    if sign == " ":
        return "blank"
    if sign == ";":
        return "semicolon"
    raise NoText(f"no word has the sign {sign!r}")


def end_of_run(text, start, kind):
    end = start + 1
    # Two semicolons side by side are two words, so they make no run.
    if kind == "semicolon":
        return end
    while end < len(text) and kind_of(text[end]) == kind:
        end = end + 1
    return end


def check_figures(figures):
    if len(figures) > MOST_FIGURES:
        raise NoText("a number has more than sixty figures")
    if len(figures) > 1 and figures[0] == "0":
        raise NoText("a number has a 0 ahead of other figures")


def words(text):
    if not isinstance(text, str):
        raise NoText("what is no text has no words")
    told = []
    start = 0
    while start < len(text):
        kind = kind_of(text[start])
        end = end_of_run(text, start, kind)
        word = text[start:end]
        if kind == "figure":
            check_figures(word)
        if kind != "blank":
            told.append(word)
        start = end
    return told
