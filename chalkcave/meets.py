"""The meeting of two charts: a way is home in it just where it is home in both."""

from chalkcave.chart import Chart
from chalkcave.errors import NoChart
from chalkcave.numbering import letters_in_order


def met(one, two):
    """The chart of the pairs of chambers that are met from (0, 0), numbered from there; NoChart."""
    if one.kinds != two.kinds:
        raise NoChart("the charts have not as many kinds")
    order = pairs_in_order(one, two)
    numbers = {pair: number for number, pair in enumerate(order)}
    kinds = list(range(1, one.kinds + 1))
    return Chart(one.kinds, [[numbers.get(pair_step(one, two, pair, kind)) for kind in kinds] for pair in order])


def pairs_in_order(one, two):
    """The pairs that are met from (0, 0), in the order of their numbers."""
    order = [(0, 0)]
    seen = {(0, 0): True}
    at = 0
    while at < len(order):
        for letter in letters_in_order(one):
            there = pair_step(one, two, order[at], letter)
            if there is not None and there not in seen:
                seen[there] = True
                order.append(there)
        at += 1
    return order


def pair_step(one, two, pair, letter):
    """The pair to which the letter leads, or None where it leads nowhere in one of the charts."""
    ends = (one.step(pair[0], letter), two.step(pair[1], letter))
    if None in ends:
        return None
    return ends
