"""Whether papers of judge are right; nothing is searched."""

from laterepair.arguments import check_setting
from laterepair.bounds import MOST_JUDGED_TICKS
from laterepair.checks import MOST_AGE, is_losses, is_within
from laterepair.fields import Field, is_late
from laterepair.judged import InTime, Late
from laterepair.standings import table_states
from laterepair.tables import is_closed


def shows_judged(plan, rule, delay, value):
    """Whether this is an InTime or a Late that is right."""
    check_setting(plan, rule, delay)
    if isinstance(value, InTime):
        return shows_in_time(plan, rule, delay, value.table)
    if isinstance(value, Late):
        return shows_losses(rule, value.losses) and shows_late(plan, delay, value.losses, value.other)
    return False


def shows_in_time(plan, rule, delay, table):
    """Whether this is a tuple of at most 5,000 Standings that is a closed table."""
    states = table_states(table, plan, rule, delay)
    if states is None or any([is_late(state, delay) for state in states]):
        return False
    return is_closed(Field([plan], rule, delay), states)


def shows_losses(rule, losses):
    """Whether these are losses of at most 2,000 ticks that the rule lets."""
    return is_losses(losses) and len(losses) <= MOST_JUDGED_TICKS and losses in rule


def shows_late(plan, delay, losses, other):
    """Whether these are rows 0 or 1 of a stream whose packets that come tell 0, and whose row of the delay is 1."""
    if not isinstance(other, tuple) or len(other) != len(losses):
        return False
    if not all([is_within(row, 0, 1) for row in other]):
        return False
    at = len(losses) - 1 - delay
    if at < 0 or other[at] == 0:
        return False
    return all([is_silent(plan.tick_at(tick), losses[tick], other, tick) for tick in range(len(losses))])


def is_silent(tick, letter, rows, number):
    """Whether the row of this tick is 0 if it is mute, and the sums of its packet are 0 if it comes."""
    if tick.mute and rows[number] != 0:
        return False
    if letter == "x":
        return True
    recent = {age: rows[number - age] for age in range(min(number, MOST_AGE) + 1)}
    return all([value == 0 for value in tick.packed(recent)])
