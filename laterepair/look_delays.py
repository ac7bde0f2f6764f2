"""Whether papers of worst_delay and fewest_losses show their numbers; nothing is searched."""

from laterepair.arguments import check_delay, check_plan, check_rule
from laterepair.bounds import MOST_SHOWN_TICKS, MOST_TOTAL
from laterepair.checks import is_losses, is_within
from laterepair.delays import Delay, Fewest, check_phase, is_all_mute, wide_field, with_total
from laterepair.fields import Field, is_late
from laterepair.look_judged import shows_in_time
from laterepair.standings import table_states
from laterepair.tables import is_closed


def shows_delay(plan, rule, phase, most, value):
    """Whether this is a Delay that shows its number."""
    check_plan(plan)
    check_rule(rule)
    check_phase(plan, phase)
    check_delay(most)
    if not isinstance(value, Delay):
        return False
    if value.number is None:
        return value.table == () and shows_missing(plan, rule, phase, most, value.losses)
    if not is_within(value.number, 0, most) or not shows_wide(plan, rule, phase, value.number, value.table):
        return False
    if value.number == 0:
        return value.losses is None
    return shows_missing(plan, rule, phase, value.number - 1, value.losses)


def shows_wide(plan, rule, phase, age, table):
    """Whether this is a closed tuple of wide Standings in which the rows of this phase are known at this age."""
    field = wide_field(plan, rule, age)
    states = table_states(table, plan, rule, field.top)
    if states is None:
        return False
    then = (phase + age + 1) % len(plan)
    if any([state[0] == then and is_late(state, age) for state in states]):
        return False
    return is_closed(field, states)


def is_let(rule, losses):
    """Whether these are losses of at most 5,000 ticks, let by the rule, if there is one."""
    if not is_losses(losses) or len(losses) > MOST_SHOWN_TICKS:
        return False
    return rule is None or losses in rule


def shows_missing(plan, rule, phase, age, losses):
    """Whether behind these losses, which the rule lets, a row of this phase is not known at this age."""
    if not is_let(rule, losses):
        return False
    tick = len(losses) - 1 - age
    if tick < 0 or tick % len(plan) != phase:
        return False
    states = wide_field(plan, rule, age).all_along(losses)
    return is_late(states[-1], age)


def shows_fewest(plan, delay, rule, value):
    """Whether this is a Fewest that shows its number."""
    check_plan(plan)
    check_delay(delay)
    if rule is not None:
        check_rule(rule)
    if not isinstance(value, Fewest):
        return False
    number = value.number
    if number is None:
        return value.losses is None and shows_never(plan, delay, rule, value.table)
    if not is_within(number, 0, MOST_TOTAL) or not shows_some_late(plan, delay, rule, number, value.losses):
        return False
    if number == 0:
        return value.table is None
    return shows_in_time(plan, with_total(rule, number - 1), delay, value.table)


def shows_never(plan, delay, rule, table):
    """Whether this table shows that no losses that the rule lets, or that no losses at all, make a row late."""
    if rule is not None:
        return shows_in_time(plan, rule, delay, table)
    return is_all_mute(plan) and shows_in_time(plan, with_total(None, 0), delay, table)


def shows_some_late(plan, delay, rule, number, losses):
    """Whether these are losses of just so many packets, let by the rule, that make a row late."""
    if not is_let(rule, losses) or losses.count("x") != number:
        return False
    field = Field([plan], with_total(None, number) if rule is None else rule, delay)
    # Up to the first row that is late the states are those of what is known; what comes behind plays no part.
    return any([is_late(state, delay) for state in field.all_along(losses)])
