"""Charts written as texts."""

from chalkcave.chart import Chart
from chalkcave.errors import NoChart

HEAD = "chart"
UNKNOWN = "-"
FIGURES = "0123456789"
# No number of a chart has more.
MOST_FIGURES = 3


def written(chart):
    """The chart as a text."""
    rows = [f"{HEAD} {chart.kinds} {chart.size()}"]
    for ends in chart.table():
        rows.append(" ".join([word_of(end) for end in ends]))
    return "\n".join(rows)


def word_of(end):
    """A chamber in figures, or the sign for one that is not known."""
    if end is None:
        return UNKNOWN
    return str(end)


def read_chart(text):
    """The chart that a text writes; NoChart where it writes none."""
    rows = text.split("\n")
    kinds, size = read_head(rows[0])
    if len(rows) - 1 != size:
        raise NoChart("the head tells another number of chambers")
    return Chart(kinds, [[read_end(word) for word in row.split(" ")] for row in rows[1:]])


def read_head(row):
    """The pair (kinds, size) that the first row of a text tells; NoChart."""
    words = row.split(" ")
    if len(words) != 3 or words[0] != HEAD:
        raise NoChart("the first row is no head")
    return read_number(words[1]), read_number(words[2])


def read_end(word):
    """The chamber that a word tells, or None where it is not known; NoChart."""
    if word == UNKNOWN:
        return None
    return read_number(word)


def read_number(word):
    """The number that a word writes; NoChart."""
    number = number_of(word, MOST_FIGURES)
    if number is None:
        raise NoChart("a word that writes no number")
    return number


def number_of(word, most):
    """The number that a word writes in at most so many figures without a needless nought, or None."""
    # The length is looked at ahead, for Python itself won't read a word of very many figures.
    if word == "" or len(word) > most:
        return None
    for sign in word:
        if sign not in FIGURES:
            return None
    if word[0] == "0" and word != "0":
        return None
    return int(word)
