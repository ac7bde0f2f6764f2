"""Standings: what the receiver knows behind some losses, and which standings are reached."""

from laterepair.arguments import check_limit, check_setting
from laterepair.bounds import MOST_JUDGED_TICKS, MOST_TABLE
from laterepair.checks import is_losses, is_within
from laterepair.errors import BadLosses, BadSpace
from laterepair.fields import Field, explored, is_late
from laterepair.spaces import Space
from laterepair.tables import lowest


class Standing:
    """The phase of the next tick, the place of the rule, and the space of the sums of rows that are known."""

    def __init__(self, phase, place, space):
        self.phase = phase
        self.place = place
        self.space = space

    def __eq__(self, other):
        if not isinstance(other, Standing):
            return False
        return self.phase == other.phase and self.place == other.place and self.space == other.space


def is_space_below(value, top):
    """Whether this is a Space of ages up to top."""
    return isinstance(value, Space) and all([row >> (top + 1) == 0 for row in value.rows])


def is_standing(value, plan, rule, top):
    """Whether this is a Standing with a phase of the plan, a place of the rule, and a Space of ages up to top."""
    if not isinstance(value, Standing) or not is_within(value.phase, 0, len(plan) - 1):
        return False
    return is_within(value.place, 0, rule.places - 1) and is_space_below(value.space, top)


def state_of(standing):
    """The state of a Standing."""
    return (standing.phase, standing.place, (standing.space.rows,))


def standing_of(state):
    """The Standing of a state of one plan."""
    phase, place, spaces = state
    rows = spaces[0]
    return Standing(phase, place, Space(*rows))


def table_states(table, plan, rule, top):
    """The states of a tuple of at most 5,000 Standings as is_standing tells, None if it is none."""
    if not isinstance(table, tuple) or len(table) > MOST_TABLE:
        return None
    if not all([is_standing(one, plan, rule, top) for one in table]):
        return None
    return [state_of(one) for one in table]


def start(plan, rule, delay):
    """The standing behind no losses."""
    check_setting(plan, rule, delay)
    return standing_of(Field([plan], rule, delay).beginning())


def step(plan, rule, delay, standing, is_lost):
    """The standing behind one more tick, None if the rule does not let its packet be lost."""
    check_setting(plan, rule, delay)
    if not is_standing(standing, plan, rule, delay):
        raise BadSpace("standing")
    if not isinstance(is_lost, bool):
        raise BadLosses(is_lost)
    state = Field([plan], rule, delay).after(state_of(standing), is_lost)
    return None if state is None else standing_of(state)


def standing_behind(plan, rule, delay, losses):
    """The standing behind some losses, None if the rule does not let them."""
    check_setting(plan, rule, delay)
    if not is_losses(losses) or len(losses) > MOST_JUDGED_TICKS:
        raise BadLosses(losses)
    if losses not in rule:
        return None
    states = Field([plan], rule, delay).all_along(losses)
    return standing_of(states[-1])


def ordered(standings):
    """A tuple of these Standings by the phase, then by the place, then by the reduced rows of the space."""
    return tuple(sorted(standings, key=lambda one: (one.phase, one.place, one.space.rows)))


def reached_states(plan, rule, delay, limit):
    """The states that are reached by losses that make no row late."""
    check_setting(plan, rule, delay)
    check_limit(limit)
    return list(explored(Field([plan], rule, delay), is_late, delay, limit, "standings"))


def reached(plan, rule, delay, limit=2000):
    """The tuple, ordered, of all standings that are reached by losses that make no row late."""
    return tuple([standing_of(state) for state in sorted(reached_states(plan, rule, delay, limit))])


def least(plan, rule, delay, limit=2000):
    """The tuple, ordered, of those that are reached whose space contains that of no other one beside them."""
    return tuple([standing_of(state) for state in lowest(reached_states(plan, rule, delay, limit))])
