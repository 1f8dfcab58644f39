"""Ways: lists of letters, each a passage walked along (above nought) or back (below nought)."""

from chalkcave.errors import NoWay

ALONG = "abcde"
BACK = "ABCDE"
EMPTY = "."
UNWRITTEN = "?"


def cancelled(way):
    """The one way that is left when neighbours that are opposite are taken out, again and again."""
    left = []
    for letter in way:
        if left and left[-1] == -letter:
            left.pop()
        else:
            left.append(letter)
    return left


def turned(way):
    """The opposite letters from the last to the first, as they stand."""
    return [-letter for letter in way[::-1]]


def joined(one, two):
    """The one way and then the other, cancelled."""
    return cancelled(one + two)


def times(way, many):
    """So many of a way joined; below nought, so many of it turned."""
    out, ring = heart(way)
    # A way that cancels to nothing may be taken more often than a list can be repeated.
    if not ring or many == 0:
        return []
    if many < 0:
        ring = turned(ring)
    return out + ring * abs(many) + turned(out)


def heart(way):
    """The pair (out, ring): out, ring and out turned are the cancelled way as they stand."""
    left = cancelled(way)
    first = 0
    last = len(left) - 1
    while first < last and left[first] == -left[last]:
        first += 1
        last -= 1
    return left[:first], left[first:last + 1]


def turning(one, two):
    """A cancelled way t for which t, two and t turned, joined, is one cancelled; None where there is none."""
    one_out, one_ring = heart(one)
    two_out, two_ring = heart(two)
    shift = shift_between(one_ring, two_ring)
    if shift is None:
        return None
    return cancelled(one_out + turned(two_ring[:shift]) + turned(two_out))


def shift_between(one, two):
    """The place in the ring two from which on it reads as the ring one, or None."""
    if len(one) != len(two):
        return None
    if not one:
        return 0
    for shift in range(len(two)):
        if two[shift:] + two[:shift] == one:
            return shift
    return None


def shown(way):
    """The way written as it stands."""
    if not way:
        return EMPTY
    return "".join([sign_of(letter) for letter in way])


def sign_of(letter):
    """The sign of a letter."""
    size = abs(letter)
    # Only letters from -5 to 5 have a sign, but one beyond them is not refused.
    if size < 1 or size > len(ALONG):
        return UNWRITTEN
    if letter > 0:
        return ALONG[size - 1]
    return BACK[size - 1]


def read_way(text):
    """The way that a text writes, as it stands; NoWay where it writes none."""
    if text == EMPTY:
        return []
    if text == "":
        raise NoWay("the empty text writes no way")
    return [letter_of(sign) for sign in text]


def letter_of(sign):
    """The letter of a sign; NoWay where it is the sign of none."""
    if sign in ALONG:
        return ALONG.index(sign) + 1
    if sign in BACK:
        return -1 - BACK.index(sign)
    raise NoWay("a sign that writes no letter")
