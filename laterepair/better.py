"""Plans that are better than others: without sums that are not needed, or the first one that is in time."""

from laterepair.arguments import check_delay, check_plan, check_rule
from laterepair.checks import MOST_AGE, is_within
from laterepair.errors import BadCount
from laterepair.judged import judge
from laterepair.plans import Plan, Tick
from laterepair.spaces import lessened, widened
from laterepair.verdicts import Verdict

MOST_FIRST_AGE = 4
MOST_EXTRA = 2


class Found(Verdict):
    """The first candidate that is in time, its InTime, and each candidate ahead of it with its Late."""

    def __init__(self, plan, table, losers):
        self.plan = plan
        self.table = table
        self.losers = losers

    def __bool__(self):
        return True

    def __eq__(self, other):
        if not isinstance(other, Found):
            return False
        return self.plan == other.plan and self.table == other.table and self.losers == other.losers


class Barred(Verdict):
    """No candidate is in time: each one with its Late."""

    def __init__(self, losers):
        self.losers = losers

    def __bool__(self):
        return False

    def __eq__(self, other):
        return isinstance(other, Barred) and self.losers == other.losers


def heard_masks(plan, phase):
    """The sums of this phase as integers, without the ages that fall on mute ticks."""
    loud = [1 << age for age in range(MOST_AGE + 1) if not plan[(phase - age) % len(plan)].mute]
    return [mask & sum(loud) for mask in plan[phase].masks]


def needless(plan):
    """The ascending tuple of the pairs of the sums that those ahead of them in the same phase tell, too."""
    check_plan(plan)
    pairs = []
    for phase in range(len(plan)):
        rows = ()
        for at, mask in enumerate(heard_masks(plan, phase)):
            if lessened(mask, rows) == 0:
                pairs.append((phase, at))
            rows = widened(rows, [mask])
    return tuple(pairs)


def trimmed(plan):
    """The plan without its needless sums."""
    return without(plan, needless(plan))


def without(plan, pairs):
    """The plan without the sums of these pairs."""
    ticks = []
    for phase, tick in enumerate(plan):
        sums = [ages for at, ages in enumerate(tick) if (phase, at) not in pairs]
        ticks.append(Tick(*sums, mute=tick.mute))
    return Plan(*ticks)


def all_pairs(plan):
    """The ascending list of the pairs of all sums."""
    return [(phase, at) for phase, tick in enumerate(plan) for at in range(len(tick))]


def spare(plan, rule, delay, limit=2000):
    """The ascending tuple of the pairs of the sums without which, each one alone, the plan is in time."""
    if not judge(plan, rule, delay, limit):
        return ()
    return tuple([pair for pair in all_pairs(plan) if judge(without(plan, [pair]), rule, delay, limit)])


def slim(plan, rule, delay, limit=2000):
    """The plan without each sum, from the last one to the first one, without which it still is in time."""
    if not judge(plan, rule, delay, limit):
        return plan
    left_out = []
    for pair in all_pairs(plan)[::-1]:
        if judge(without(plan, [*left_out, pair]), rule, delay, limit):
            left_out.append(pair)
    return without(plan, left_out)


def ages_of(mask):
    """The ascending tuple of the ages of a sum."""
    return tuple([age for age in range(MOST_AGE + 1) if mask >> age & 1])


def candidates(age, extra):
    """The plans that first_plan looks at, in order."""
    choices = [(1,)]
    chosen = list(choices)
    for _ in range(extra):
        choices = [(*masks, more) for masks in choices for more in range(2, 2 << age, 2) if more > masks[-1]]
        chosen.extend(choices)
    ticks = []
    for masks in chosen:
        sums = [ages_of(mask) for mask in masks]
        ticks.append(Tick(*sums))
    return [Plan(tick) for tick in ticks]


def check_first(age, extra, rule, delay):
    """Raises the error of the first one of these that is wrong."""
    if not is_within(age, 1, MOST_FIRST_AGE):
        raise BadCount(age)
    if not is_within(extra, 0, MOST_EXTRA):
        raise BadCount(extra)
    check_rule(rule)
    check_delay(delay)


def first_plan(age, extra, rule, delay, limit=2000):
    """A Found of the first candidate that is in time, a Barred if there is none."""
    check_first(age, extra, rule, delay)
    losers = []
    for plan in candidates(age, extra):
        verdict = judge(plan, rule, delay, limit)
        if verdict:
            return Found(plan, verdict, tuple(losers))
        losers.append((plan, verdict))
    return Barred(tuple(losers))
