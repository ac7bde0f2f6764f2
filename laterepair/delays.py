"""The delays that rows have where they may be late, and the fewest losses that make a row late."""

from laterepair.arguments import check_delay, check_limit, check_plan, check_rule
from laterepair.bounds import MOST_TOTAL
from laterepair.checks import is_within
from laterepair.errors import NoPhase, TooMany
from laterepair.fields import Field, explored, is_late, losses_along
from laterepair.judged import judge
from laterepair.rules import Total
from laterepair.standings import standing_of
from laterepair.tables import lowest


class Delay:
    """The least delay that the rows of a phase have, with a table that shows it, and losses that a lesser one fails."""

    def __init__(self, number, table, losses):
        self.number = number
        self.table = table
        self.losses = losses

    def __eq__(self, other):
        if not isinstance(other, Delay):
            return False
        return self.number == other.number and self.table == other.table and self.losses == other.losses


class Fewest:
    """The fewest losses that make a row late, such losses, and a table that shows that fewer do not."""

    def __init__(self, number, losses, table):
        self.number = number
        self.losses = losses
        self.table = table

    def __eq__(self, other):
        if not isinstance(other, Fewest):
            return False
        return self.number == other.number and self.losses == other.losses and self.table == other.table


def check_phase(plan, phase):
    """Raises NoPhase for what is no index of a phase that is not mute."""
    if not is_within(phase, 0, len(plan) - 1) or plan[phase].mute:
        raise NoPhase(phase)


def wide_field(plan, rule, age):
    """The field of the wide standings for this delay."""
    return Field([plan], rule, max(age, plan.ages))


def wide_states(plan, rule, age, limit, known):
    """All states of the wide standings that are reached for this delay, to their links; known keeps what was found."""
    field = wide_field(plan, rule, age)
    if field.top not in known:
        known[field.top] = explored(field, None, age, limit, "standings")
    return known[field.top]


def first_missing(found, phase, age):
    """The link of the first state with this phase that does not tell this age, None if there is none."""
    for state, link in found.items():
        if state[0] == phase and is_late(state, age):
            return link
    return None


def worst_delay(plan, rule, phase, most=8, limit=2000):
    """The Delay of the rows of this phase, of delays from 0 to most."""
    check_plan(plan)
    check_rule(rule)
    check_phase(plan, phase)
    check_delay(most)
    check_limit(limit)
    return delay_of(plan, rule, phase, most, limit, {})


def delay_of(plan, rule, phase, most, limit, known):
    """The Delay of the rows of this phase; known keeps what was found of wide standings."""
    losses = None
    for age in range(most + 1):
        found = wide_states(plan, rule, age, limit, known)
        link = first_missing(found, (phase + age + 1) % len(plan), age)
        if link is None:
            return Delay(age, tuple([standing_of(state) for state in lowest(list(found))]), losses)
        losses = losses_along(found, link)
    return Delay(None, (), losses)


def worst_delays(plan, rule, most=8, limit=2000):
    """The tuple of the least delays of all phases, `mute` for a mute one."""
    check_plan(plan)
    check_rule(rule)
    check_delay(most)
    check_limit(limit)
    known = {}
    numbers = []
    for phase, tick in enumerate(plan):
        numbers.append("mute" if tick.mute else delay_of(plan, rule, phase, most, limit, known).number)
    return tuple(numbers)


def with_total(rule, number):
    """What the rule lets, if there is one, with at most so many lost packets."""
    return Total(number) if rule is None else rule & Total(number)


def is_all_mute(plan):
    """Whether all ticks of the plan are mute."""
    return all([tick.mute for tick in plan])


def fewest_losses(plan, delay, rule=None, limit=2000):
    """The Fewest of the losses that make a row late, of all losses or of those that a rule lets."""
    check_plan(plan)
    check_delay(delay)
    if rule is not None:
        check_rule(rule)
    check_limit(limit)
    if rule is not None:
        verdict = judge(plan, rule, delay, limit)
        if verdict:
            return Fewest(None, None, verdict.table)
    table = None
    for number in range(MOST_TOTAL + 1):
        verdict = judge(plan, with_total(rule, number), delay, limit)
        if not verdict:
            return Fewest(number, verdict.losses, table)
        table = verdict.table
        if rule is None and is_all_mute(plan):
            return Fewest(None, None, table)
    raise TooMany("losses", MOST_TOTAL)
