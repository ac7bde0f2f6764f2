"""Which of two plans is better, for all losses that a rule lets."""

from laterepair.arguments import check_delay, check_limit, check_rule
from laterepair.errors import BadPlan
from laterepair.fields import Field, is_parted, losses_along, searched
from laterepair.plans import Plan
from laterepair.spaces import Space
from laterepair.tables import lowest
from laterepair.verdicts import Verdict


class Pair:
    """What is known by two plans: the phase of both together, the place of the rule, and a space of each plan."""

    def __init__(self, phase, place, first, second):
        self.phase = phase
        self.place = place
        self.first = first
        self.second = second

    def __eq__(self, other):
        if not isinstance(other, Pair) or self.phase != other.phase or self.place != other.place:
            return False
        return self.first == other.first and self.second == other.second


class AtLeast(Verdict):
    """The one plan is at least as good as the other one: a closed table of pairs."""

    def __init__(self, table):
        self.table = table

    def __bool__(self):
        return True

    def __eq__(self, other):
        return isinstance(other, AtLeast) and self.table == other.table


class Parted(Verdict):
    """The one plan is not at least as good: losses behind which only the other one knows a row."""

    def __init__(self, losses):
        self.losses = losses

    def __bool__(self):
        return False

    def __eq__(self, other):
        return isinstance(other, Parted) and self.losses == other.losses


def check_beside(one, other, rule, delay):
    """Raises the error of the first one of these that is wrong, or that does not fit."""
    if not isinstance(one, Plan):
        raise BadPlan("one")
    if not isinstance(other, Plan):
        raise BadPlan("other")
    # Behind so many ticks both plans stand at their first phases again.
    for number in range(len(one) * len(other)):
        if one.tick_at(number).mute != other.tick_at(number).mute:
            raise BadPlan("mute")
    check_rule(rule)
    check_delay(delay)


def joint_field(one, other, rule, delay):
    """The field of both plans, of all ages that their sums and the delay have."""
    return Field([one, other], rule, max(delay, one.ages, other.ages))


def compare(one, other, rule, delay, limit=2000):
    """An AtLeast if the one plan is at least as good as the other one, otherwise a Parted."""
    check_beside(one, other, rule, delay)
    check_limit(limit)
    field = joint_field(one, other, rule, delay)
    found, link = searched(field, is_parted, delay, limit, "pairs")
    if link is not None:
        return Parted(losses_along(found, link))
    return AtLeast(tuple([pair_of(state) for state in lowest(list(found))]))


def pair_of(state):
    """The Pair of a state of two plans."""
    phase, place, (first, second) = state
    return Pair(phase, place, Space(*first), Space(*second))


def order(one, other, rule, delay, limit=2000):
    """Whether two plans are `alike`, the one is `better` or `worse`, or they are `apart`."""
    ahead = compare(one, other, rule, delay, limit)
    back = compare(other, one, rule, delay, limit)
    if ahead:
        return "alike" if back else "better"
    return "worse" if back else "apart"
