"""The desk: rows of text, answered out of a book."""

from chalkcave.errors import Barred, Full, NoEntry, NoHold, NoKind, NoMark, NoWay
from chalkcave.homes import homes
from chalkcave.numbering import core
from chalkcave.survey import Survey
from chalkcave.texts import number_of, written
from chalkcave.ways import read_way, shown

MOST_FIGURES = 4
NONE = "none"

# For each first word what stands behind it: n for a number, w for a way.
FORMS = {
    "chalk": "",
    "row": "nnn",
    "apart": "nn",
    "strike": "n",
    "hold": "",
    "back": "n",
    "same": "nn",
    "judge": "nwn",
    "chambers": "",
    "homes": "n",
    "core": "n",
}


class Desk:
    """A book of its own that is kept by rows of text."""

    def __init__(self, kinds):
        self.book = Survey(kinds)

    def say(self, line):
        """The answer to one row."""
        words = line.split(" ")
        things = things_of(words)
        if things is None:
            return refusal("NoLine")
        action = ACTIONS[words[0]]
        try:
            return action(self.book, things)
        except NoWay:
            return refusal("NoWay")
        except NoMark:
            return refusal("NoMark")
        except NoKind:
            return refusal("NoKind")
        except NoEntry:
            return refusal("NoEntry")
        except NoHold:
            return refusal("NoHold")
        except Full:
            return refusal("Full")
        except Barred:
            return refusal("Barred")


def refusal(name):
    """The answer that tells a refusal."""
    return f"refused {name}"


def things_of(words):
    """The numbers and texts behind the first word, or None where the words are of no form."""
    form = FORMS.get(words[0])
    if form is None or len(words) != len(form) + 1:
        return None
    things = [thing_of(sign, words[at + 1]) for at, sign in enumerate(form)]
    if None in things:
        return None
    return things


def thing_of(sign, word):
    """The thing that a word writes at a place of a form, or None."""
    if sign == "n":
        return number_of(word, MOST_FIGURES)
    if word == "":
        return None
    return word


def say_chalk(book, things):
    """Chalk a mark."""
    return f"mark {book.chalk()}"


def say_row(book, things):
    """Enter a row."""
    a, kind, b = things
    return f"entry {book.row(a, kind, b)}"


def say_apart(book, things):
    """Enter an oath."""
    a, b = things
    return f"entry {book.apart(a, b)}"


def say_strike(book, things):
    """Strike an entry."""
    return f"struck {book.strike(things[0])}"


def say_hold(book, things):
    """Hold the book."""
    return f"hold {book.hold()}"


def say_back(book, things):
    """Go back to a hold."""
    return f"back {book.back(things[0])}"


def say_same(book, things):
    """Whether two marks are in one chamber."""
    a, b = things
    return "same" if book.same(a, b) else "unlike"


def say_judge(book, things):
    """How a way is judged; the way is read ahead of all else."""
    a, text, b = things
    way = read_way(text)
    return book.judge(a, way, b)


def say_chambers(book, things):
    """The marks' chambers."""
    return listed([str(chamber) for chamber in book.chambers()])


def say_homes(book, things):
    """The home rows of the piece of a mark."""
    return listed([shown(way) for way in homes(book.piece(things[0]))])


def say_core(book, things):
    """The core of the piece of a mark."""
    return written(core(book.piece(things[0])))


def listed(words):
    """Words with one blank between, or the word for none."""
    if not words:
        return NONE
    return " ".join(words)


ACTIONS = {
    "chalk": say_chalk,
    "row": say_row,
    "apart": say_apart,
    "strike": say_strike,
    "hold": say_hold,
    "back": say_back,
    "same": say_same,
    "judge": say_judge,
    "chambers": say_chambers,
    "homes": say_homes,
    "core": say_core,
}
