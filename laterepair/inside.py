"""Whether a rule lets all losses that another one lets."""

from laterepair.checks import is_ascending, is_losses, is_within
from laterepair.rules import check_rules
from laterepair.verdicts import Verdict


class Inside(Verdict):
    """The other rule lets all: pairs of places to which losses lead that the one lets."""

    def __init__(self, pairs):
        self.pairs = pairs

    def __bool__(self):
        return True

    def __eq__(self, other):
        return isinstance(other, Inside) and self.pairs == other.pairs


class Outside(Verdict):
    """The other rule does not let all: losses that the one lets and the other does not."""

    def __init__(self, losses):
        self.losses = losses

    def __bool__(self):
        return False

    def __eq__(self, other):
        return isinstance(other, Outside) and self.losses == other.losses


def inside(one, other):
    """An Inside if the other rule lets all losses that the one lets, otherwise an Outside."""
    check_rules(one, other)
    # Pairs are reached by shorter losses first, and by equally long ones in ascending order;
    # so the first losses that are found outside are the shortest, and of these the first.
    order = [(0, 0)]
    found = {(0, 0): ""}
    at = 0
    while at < len(order):
        pair = order[at]
        for is_lost in (False, True):
            place = one.behind(pair[0], is_lost)
            if place is None:
                continue
            losses = found[pair] + ("x" if is_lost else ".")
            after = (place, other.behind(pair[1], is_lost))
            if after[1] is None:
                return Outside(losses)
            if after not in found:
                found[after] = losses
                order.append(after)
        at = at + 1
    return Inside(tuple(sorted(order)))


def shows_inside(one, other, value):
    """Whether this is an Inside or an Outside that shows what it says of the two rules."""
    check_rules(one, other)
    if isinstance(value, Inside):
        return shows_pairs(one, other, value.pairs)
    if isinstance(value, Outside):
        losses = value.losses
        return is_losses(losses) and losses in one and losses not in other
    return False


def shows_pairs(one, other, pairs):
    """Whether this is an ascending tuple of pairs of places, closed under what the one rule lets."""
    if not isinstance(pairs, tuple) or not all([is_place_pair(one, other, pair) for pair in pairs]):
        return False
    if not is_ascending(pairs):
        return False
    table = {pair: True for pair in pairs}
    return (0, 0) in table and all([leads_within(one, other, pair, table) for pair in pairs])


def is_place_pair(one, other, value):
    """Whether this is a tuple of a place of the one rule and a place of the other one."""
    if not isinstance(value, tuple) or len(value) != 2:
        return False
    return is_within(value[0], 0, one.places - 1) and is_within(value[1], 0, other.places - 1)


def leads_within(one, other, pair, table):
    """Whether each packet that the one rule lets leads from this pair to one of the table."""
    for is_lost in (False, True):
        place = one.behind(pair[0], is_lost)
        if place is not None and (place, other.behind(pair[1], is_lost)) not in table:
            return False
    return True
