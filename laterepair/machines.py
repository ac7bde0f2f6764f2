"""Tables of rules: for each place the pair of the place behind a kept packet and that behind a lost one.

The second one is None if none may be lost. The place 0 is the first one. The *ways* of a rule are the
table with the fewest places that lets the same, numbered as the places are first reached.
"""

from laterepair.bounds import MOST_PLACES
from laterepair.errors import TooMany


def burst_table(most, gap):
    """Place 0 is free; then come those behind 1 to most lost packets, and those behind 1 to gap - 1 kept ones."""
    rested = most + 1 if gap > 1 else 0
    table = [(0, 1)]
    for lost in range(1, most + 1):
        table.append((rested, lost + 1 if lost < most else None))
    for kept in range(1, gap):
        table.append((most + kept + 1 if kept < gap - 1 else 0, None))
    return table


def window_table(most, width):
    """The bits of a place tell which ones of the last width - 1 packets were lost."""
    many = 1 << (width - 1)
    table = []
    for bits in range(many):
        lost = sum([bits >> at & 1 for at in range(width - 1)])
        table.append((bits * 2 % many, (bits * 2 + 1) % many if lost < most else None))
    return table


def total_table(most):
    """The place tells how many packets were lost."""
    return [(lost, lost + 1 if lost < most else None) for lost in range(most + 1)]


def closed_ways(ways):
    """The ways with one place more, which a loss that is not let leads to, and which nothing leaves."""
    shut = len(ways)
    closed = [(kept, shut if lost is None else lost) for kept, lost in ways]
    closed.append((shut, shut))
    return closed


def joined_table(one, other, needs_both):
    """The table of the places of two ways at once; a loss is let if both, or else if one of them, let it."""
    wide = len(other) + 1
    table = []
    for first in closed_ways(one):
        for second in closed_ways(other):
            refused = [first[1] == len(one), second[1] == len(other)]
            lost = first[1] * wide + second[1]
            if any(refused) if needs_both else all(refused):
                lost = None
            table.append((first[0] * wide + second[0], lost))
    return table


def numbered(table):
    """The pairs of the places that are reached, numbered as they are first reached."""
    order = [0]
    numbers = {0: 0}
    at = 0
    while at < len(order):
        pair = table[order[at]]
        for place in pair:
            if place is not None and place not in numbers:
                numbers[place] = len(order)
                order.append(place)
        at = at + 1
    # No place is called None, so get tells None where no packet may be lost.
    return tuple([(numbers[table[place][0]], numbers.get(table[place][1])) for place in order])


def first_places(marks):
    """For each mark the number of unlike marks that stand ahead of the first one that equals it."""
    numbers = {}
    for mark in marks:
        numbers.setdefault(mark, len(numbers))
    return [numbers[mark] for mark in marks]


def kinds_of(table):
    """For each place the number of its kind: places of one kind let the same losses behind them.

    All places are reached, so that more kinds than a rule may have places are refused.
    """
    kinds = [0 for _ in table]
    while True:
        marks = []
        for place, (kept, lost) in enumerate(table):
            marks.append((kinds[place], kinds[kept], None if lost is None else kinds[lost]))
        finer = first_places(marks)
        if max(finer) >= MOST_PLACES:
            raise TooMany("places", MOST_PLACES)
        if max(finer) == max(kinds):
            return kinds
        kinds = finer


def fewest_ways(table):
    """The ways of the rule with this table."""
    reached = numbered(table)
    kinds = kinds_of(reached)
    merged = []
    for kind in range(max(kinds) + 1):
        kept, lost = reached[kinds.index(kind)]
        merged.append((kinds[kept], None if lost is None else kinds[lost]))
    return numbered(merged)


def walked(ways, losses):
    """A pair: the place behind some losses, and the index of the first packet that may not be lost; one is None."""
    place = 0
    for at, letter in enumerate(losses):
        place = ways[place][1] if letter == "x" else ways[place][0]
        if place is None:
            return (None, at)
    return (place, None)


def next_losses(ways, losses):
    """The losses that come next in order among those that are let and as long, None if there are none."""
    place = 0
    last = None
    for at, letter in enumerate(losses):
        if letter == "." and ways[place][1] is not None:
            last = at
        place = ways[place][1] if letter == "x" else ways[place][0]
    if last is None:
        return None
    return losses[:last] + "x" + "." * (len(losses) - last - 1)


def count_losses(ways, ticks):
    """How many losses of so many ticks are let."""
    counts = [1] + [0] * (len(ways) - 1)
    for _ in range(ticks):
        after = [0] * len(ways)
        for place, (kept, lost) in enumerate(ways):
            after[kept] = after[kept] + counts[place]
            if lost is not None:
                after[lost] = after[lost] + counts[place]
        counts = after
    return sum(counts)
