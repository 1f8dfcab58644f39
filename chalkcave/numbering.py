"""Charts numbered from a base, and charts without hairs."""

from chalkcave.chart import Chart


def numbered(chart, base):
    """The chart numbered from a base, without the chambers that are never met; NoChamber."""
    chart.check_chamber(base)
    return renumbered(chart, list(ways_from(chart, base)))


def core(chart):
    """The chart numbered from chamber 0, without hairs."""
    whole = numbered(chart, 0)
    return numbered(renumbered(whole, without_hairs(whole)), 0)


def ways_from(chart, base):
    """A dict with a cancelled way from the base to each chamber that is met, in the order in which they are met."""
    ways = {base: []}
    order = [base]
    at = 0
    while at < len(order):
        chamber = order[at]
        for letter in letters_in_order(chart):
            there = chart.step(chamber, letter)
            if there is not None and there not in ways:
                ways[there] = ways[chamber] + [letter]
                order.append(there)
        at += 1
    return ways


def letters_in_order(chart):
    """Kind 1 along, kind 1 back, kind 2 along, kind 2 back and so on."""
    return [letter for kind in range(1, chart.kinds + 1) for letter in (kind, -kind)]


def renumbered(chart, order):
    """The chart of these chambers alone, numbered as they are told; a passage to another one is no longer known."""
    table = chart.table()
    numbers = {chamber: number for number, chamber in enumerate(order)}
    return Chart(chart.kinds, [[numbers.get(there) for there in table[chamber]] for chamber in order])


def without_hairs(chart):
    """The chambers that are left when hairs are taken out, of a chart in which all are met from chamber 0."""
    beside = [chambers_beside(chart, chamber) for chamber in range(chart.size())]
    many = [len(others) for others in beside]
    left = [True] * chart.size()
    waiting = [chamber for chamber in range(1, chart.size()) if many[chamber] == 1]
    while waiting:
        hair = waiting.pop()
        left[hair] = False
        for other in beside[hair]:
            many[other] -= 1
            if left[other] and other != 0 and many[other] == 1:
                waiting.append(other)
    return [chamber for chamber in range(chart.size()) if left[chamber]]


def chambers_beside(chart, chamber):
    """The other end of each passage that begins or ends at a chamber; one back into it stands there twice."""
    ends = [chart.step(chamber, letter) for letter in letters_in_order(chart)]
    return [end for end in ends if end is not None]
