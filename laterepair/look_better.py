"""Whether papers of first_plan show what they say; nothing is searched."""

from laterepair.better import Barred, Found, candidates, check_first
from laterepair.judged import InTime, Late
from laterepair.look_judged import shows_judged
from laterepair.plans import Plan


def shows_first(age, extra, rule, delay, value):
    """Whether this is a Found or a Barred that shows what it says."""
    check_first(age, extra, rule, delay)
    plans = candidates(age, extra)
    if isinstance(value, Barred):
        return shows_losers(plans, rule, delay, value.losers)
    if not isinstance(value, Found) or not isinstance(value.plan, Plan) or value.plan not in plans:
        return False
    if not isinstance(value.table, InTime) or not shows_judged(value.plan, rule, delay, value.table):
        return False
    return shows_losers(plans[:plans.index(value.plan)], rule, delay, value.losers)


def shows_losers(plans, rule, delay, losers):
    """Whether this is a tuple of pairs, of each of these plans in order, and a Late that is right for it."""
    if not isinstance(losers, tuple) or len(losers) != len(plans):
        return False
    return all([shows_loser(plan, rule, delay, pair) for plan, pair in zip(plans, losers)])


def shows_loser(plan, rule, delay, pair):
    """Whether this is a pair of a plan that equals this one, and a Late that is right for it."""
    if not isinstance(pair, tuple) or len(pair) != 2:
        return False
    beaten, paper = pair
    if not isinstance(beaten, Plan) or beaten != plan:
        return False
    return isinstance(paper, Late) and shows_judged(plan, rule, delay, paper)
