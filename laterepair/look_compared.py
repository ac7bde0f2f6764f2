"""Whether papers of compare are right; nothing is searched."""

from laterepair.bounds import MOST_SHOWN_TICKS, MOST_TABLE
from laterepair.checks import is_losses, is_within
from laterepair.compared import AtLeast, Pair, Parted, check_beside, joint_field
from laterepair.fields import is_parted
from laterepair.standings import is_space_below
from laterepair.tables import is_closed


def shows_compared(one, other, rule, delay, value):
    """Whether this is an AtLeast or a Parted that is right."""
    check_beside(one, other, rule, delay)
    field = joint_field(one, other, rule, delay)
    if isinstance(value, AtLeast):
        return shows_at_least(one, field, rule, delay, value.table)
    if isinstance(value, Parted):
        return shows_parted(field, rule, delay, value.losses)
    return False


def is_joint(value, field, rule):
    """Whether this is a Pair with a phase of both plans, a place of the rule, and two Spaces of the right ages."""
    if not isinstance(value, Pair) or not is_within(value.phase, 0, field.phases - 1):
        return False
    if not is_within(value.place, 0, rule.places - 1):
        return False
    return is_space_below(value.first, field.top) and is_space_below(value.second, field.top)


def shows_at_least(plan, field, rule, delay, table):
    """Whether this is a tuple of at most 5,000 Pairs that is a closed table; plan has the mute ticks of both."""
    if not isinstance(table, tuple) or len(table) > MOST_TABLE:
        return False
    if not all([is_joint(pair, field, rule) for pair in table]):
        return False
    states = [(pair.phase, pair.place, (pair.first.rows, pair.second.rows)) for pair in table]
    for state in states:
        made_at = (state[0] - delay - 1) % field.phases
        if is_parted(state, delay) and not plan.tick_at(made_at).mute:
            return False
    return is_closed(field, states)


def shows_parted(field, rule, delay, losses):
    """Whether behind these losses, of at most 5,000 ticks and let by the rule, only the second plan knows the row."""
    if not is_losses(losses) or len(losses) > MOST_SHOWN_TICKS or losses not in rule:
        return False
    states = field.all_along(losses)
    return is_parted(states[-1], delay)
