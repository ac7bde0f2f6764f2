"""What arguments must be that many functions have; each function raises the error of its argument."""

from laterepair.bounds import MOST_LIMIT
from laterepair.checks import is_delay, is_within
from laterepair.errors import BadCount, BadDelay, BadPlan, BadRule
from laterepair.plans import Plan
from laterepair.rules import Rule


def check_plan(plan):
    """Raises BadPlan for what is no Plan."""
    if not isinstance(plan, Plan):
        raise BadPlan("plan")


def check_rule(rule):
    """Raises BadRule for what is no Rule."""
    if not isinstance(rule, Rule):
        raise BadRule("rule")


def check_delay(delay):
    """Raises BadDelay for what is no integer from 0 to 8."""
    if not is_delay(delay):
        raise BadDelay(delay)


def check_limit(limit):
    """Raises BadCount for what is no integer from 1 to 5,000."""
    if not is_within(limit, 1, MOST_LIMIT):
        raise BadCount(limit)


def check_setting(plan, rule, delay):
    """Raises the error of the first one of these three that is wrong."""
    check_plan(plan)
    check_rule(rule)
    check_delay(delay)
