"""Sums that are not needed, and the first plan that is in time."""

import unittest
from inspect import signature
from itertools import combinations, product

from laterepair.better import Barred, Found, first_plan, needless, slim, spare, trimmed
from laterepair.errors import BadCount, BadDelay, BadPlan, BadRule, TooMany
from laterepair.judged import InTime, Late, judge
from laterepair.look_better import shows_first
from laterepair.look_judged import shows_judged
from laterepair.plans import Plan, Tick, copies, parity
from laterepair.rules import Burst, Machine, Total, Window
from laterepair.spaces import Space
from laterepair.standings import Standing
from tests.helpers import ANY, NO_DELAYS, NO_INTEGERS, NO_LIMITS, NO_PLANS, NO_RULES, Errors, all_sums, same
from tests.live import chosen, some_plan

RULES = [Total(0), Total(1), Total(2), Burst(1, 1), Burst(2, 2), Window(1, 3), Machine((0, 1), (0, 2), (0, None)),
         Machine((1, None), (0, 0)), Burst(2, 1) & Total(2)]
ONE = Burst(1, 1)
FULL = Plan.read("0 , 1 , 2 , 0 1 , 3 , 1 3")
PLANS = [Plan.read(text) for text in (
    "0", "-", "0 , 1", "0 , 1 , 2", "0 , 1 2", "0 , 1 , 0 1", "0 , 1 , 0 1 / mute 1 , 2", "0 1 , 1 , 0", "1 , 2 , 1 2 , 0",
    "0 , 1 / 0 , 1 , 2 / 0", "0 / mute 1 , 2 / 0 , 1 3", "0 , 2 , 1 2 , 1 / mute 1 2 3", "mute 1 / mute 2 3", "mute - / 0 , 1 , 2",
    "0 , 1 / 0 , 2 / 0 , 3 / 0 , 1 , 3", "0 , 1 2 , 3 4 , 1 2 3 4 / 0", "0 / 0 / mute 1 2 , 1 , 2", "2 , 4 / mute 2 , 4 , 2 4")]


def heard_bits(plan, phase, ages):
    """The sum as an integer without the rows of mute ticks."""
    ticks = list(plan)
    return sum(2 ** age for age in ages if not ticks[(phase - age) % len(ticks)].mute)


def needless_by_hand(plan):
    found = []
    for phase, tick in enumerate(plan):
        for at, ages in enumerate(tick.sums):
            ahead = all_sums([heard_bits(plan, phase, other) for other in tick.sums[:at]])
            if heard_bits(plan, phase, ages) in ahead:
                found.append((phase, at))
    return tuple(found)


def left(plan, pairs):
    """The plan without the sums of these pairs, by its text."""
    ticks = []
    for phase, tick in enumerate(str(plan).split(" / ")):
        first, sums = ("mute ", tick[5:]) if tick.startswith("mute") else ("", tick)
        kept = [text for at, text in enumerate(sums.split(" , ")) if (phase, at) not in pairs]
        ticks.append(first + (" , ".join(kept) if kept else "-"))
    return Plan.read(" / ".join(ticks))


def pairs_of(plan):
    return [(phase, at) for phase, tick in enumerate(plan) for at in range(len(tick.sums))]


class TestNeedless(Errors, unittest.TestCase):

    def test_against_sets_of_sums(self):
        chooser = chosen(11)
        many = {0: 0, 1: 0, 2: 0}
        for plan in [*PLANS, FULL, *[some_plan(chooser, mute=chooser.choice((0, 0.4))) for _ in range(800)]]:
            wanted = needless_by_hand(plan)
            self.assertTrue(same(needless(plan), wanted), str(plan))
            self.assertEqual(trimmed(plan), left(plan, wanted))
            self.assertEqual(needless(trimmed(plan)), ())
            many[min(2, len(wanted))] += 1
        self.assertGreater(min(many.values()), 100)

    def test_named_plans(self):
        for text, pairs, kept in (
                ("0 , 1 , 2 , 0 1 , 3 , 1 3", ((0, 3), (0, 5)), "0 , 1 , 2 , 3"),
                ("0 / 0 / 0 / 0 / 0 / 0 , 1 , 0 1", ((5, 2),), "0 / 0 / 0 / 0 / 0 / 0 , 1"),
                ("mute 1 , 2 , 3", ((0, 0), (0, 1), (0, 2)), "mute -"), ("0 , 1", (), "0 , 1"), ("-", (), "-"),
                ("0 / mute 1 , 2", ((1, 1),), "0 / mute 1"), ("0 , 1 / mute 1", ((0, 1),), "0 / mute 1"),
                ("0 , 2 , 0 4 , 2 4 / mute 2", ((0, 3), (1, 0)), "0 , 2 , 0 4 / mute -"),
                ("0 , 0 1 / mute 1 , 1 2 , 3 8", ((0, 1), (1, 1)), "0 / mute 1 , 3 8"),
                ("0 1 , 1 2 , 0 2 , 0", ((0, 2),), "0 1 , 1 2 , 0"),
                ("0 , 7 / 0 / mute 7 , 8", ((0, 1),), "0 / 0 / mute 7 , 8"),
                ("0 , 8 / 0 / mute 7 , 8", (), "0 , 8 / 0 / mute 7 , 8")):
            self.assertEqual(needless(plan=Plan.read(text)), pairs, text)
            self.assertEqual(str(trimmed(plan=Plan.read(text))), kept)

    def test_trimmed_plans_are_judged_as_the_plans_themselves(self):
        chooser = chosen(12)
        seen = {True: 0, False: 0}
        for plan in [*PLANS, *[some_plan(chooser, phases=chooser.choice((1, 2, 3)), mute=0.4) for _ in range(120)]]:
            less = trimmed(plan)
            for rule, delay in ((Total(1), 1), (Total(2), 2), (ONE, 1), (Burst(2, 2), 3), (Window(1, 3), 4)):
                one, other = judge(plan, rule, delay, 5000), judge(less, rule, delay, 5000)
                seen[bool(one)] += 1
                if one:
                    self.assertEqual(one, other)
                else:
                    self.assertEqual(len(one.losses), len(other.losses))
                    self.assertTrue(shows_judged(less, rule, delay, one) and shows_judged(plan, rule, delay, other))
        self.assertGreater(min(seen.values()), 50)

    def test_no_plans(self):
        for call, value in product((needless, trimmed), NO_PLANS):
            self.assert_raised(BadPlan("plan"), call, value)
            self.assert_raised(BadPlan("plan"), call, plan=value)


def settings():
    chooser = chosen(13)
    for plan in [*PLANS, *[some_plan(chooser, phases=chooser.choice((1, 1, 2)), mute=0.2) for _ in range(30)]]:
        for rule, delay in ((Total(1), 1), (Total(2), 2), (ONE, 1), (Burst(2, 2), 3), (Window(1, 3), 4), (Total(0), 0)):
            yield plan, rule, delay


class TestSpare(Errors, unittest.TestCase):

    def test_plan_by_plan(self):
        seen = {"late": 0, "some": 0, "none": 0}
        for plan, rule, delay in settings():
            told = spare(plan, rule, delay, 5000)
            slimmer = slim(plan, rule, delay, 5000)
            self.assertEqual(told, spare(limit=5000, delay=delay, rule=rule, plan=plan))
            if not judge(plan, rule, delay, 5000):
                seen["late"] += 1
                self.assertTrue(same(told, ()))
                self.assertIs(slimmer, plan)
                continue
            wanted = tuple(pair for pair in pairs_of(plan) if judge(left(plan, [pair]), rule, delay, 5000))
            seen["some" if wanted else "none"] += 1
            self.assertTrue(same(told, wanted))
            dropped = []
            for pair in reversed(pairs_of(plan)):
                if judge(left(plan, [*dropped, pair]), rule, delay, 5000):
                    dropped.append(pair)
            self.assertEqual(slimmer, left(plan, dropped))
            self.assertIs(type(slimmer), Plan)
            self.assertTrue(judge(slimmer, rule, delay, 5000))
            self.assertEqual(spare(slimmer, rule, delay, 5000), ())
        self.assertGreater(min(seen.values()), 20, seen)

    def test_the_last_sums_are_left_out_first(self):
        self.assertEqual(str(slim(Plan.read("0 , 2 , 1"), Total(1), 2)), "0 , 2")
        self.assertEqual(str(slim(Plan.read("0 , 1 , 2"), Total(1), 2)), "0 , 1")
        self.assertEqual(spare(Plan.read("0 , 1 , 2"), Total(1), 2), ((0, 0), (0, 1), (0, 2)))
        self.assertEqual(str(slim(Plan.read("0 , 1 / 0 , 1"), Total(0), 0)), "0 / 0")
        self.assertEqual(str(slim(Plan.read("mute 1 / mute 2 3"), Total(3), 0)), "mute - / mute -")

    def sizes(self, plan, rule, delay, following):
        """The least limit with which each plan that is judged can be judged."""
        most = 1
        for pair in following:
            limit = 1
            while True:
                try:
                    judge(left(plan, pair), rule, delay, limit)
                    break
                except TooMany:
                    limit += 1
            most = max(most, limit)
        return most

    def test_limits(self):
        checked = 0
        for plan, rule, delay in settings():
            if not judge(plan, rule, delay, 5000) or len(pairs_of(plan)) > 4 or delay > 2:
                continue
            alone = self.sizes(plan, rule, delay, [[], *[[pair] for pair in pairs_of(plan)]])
            dropped, tried = [], [[]]
            for pair in reversed(pairs_of(plan)):
                tried.append([*dropped, pair])
                if judge(left(plan, tried[-1]), rule, delay):
                    dropped.append(pair)
            along = self.sizes(plan, rule, delay, tried)
            for call, most in ((spare, alone), (slim, along)):
                self.assertEqual(call(plan, rule, delay, most), call(plan, rule, delay))
                if most > 1:
                    checked += 1
                    self.assert_raised(TooMany("standings", most - 1), call, plan, rule, delay, most - 1)
        self.assertGreater(checked, 40)

    def test_more_standings_without_a_sum(self):
        # The plan itself has fewer standings than the plan without a sum, so only the latter passes the limit.
        plan, rule = Plan.read("0 , 1 , 2"), Burst(1, 1)
        few = len(judge(plan, rule, 2).table)
        found = [(pair, limit) for pair in pairs_of(plan) for limit in range(1, 9)
                 if self.sizes(plan, rule, 2, [[pair]]) > limit >= few]
        self.assertTrue(found)
        for _, limit in found:
            self.assert_raised(TooMany("standings", limit), spare, plan, rule, 2, limit)

    def test_a_late_plan_is_judged_alone(self):
        plan, rule = Plan.read("0 , 8"), Burst(1, 1)
        self.assertFalse(judge(plan, rule, 0, 1))
        self.assertEqual(spare(plan, rule, 0, 1), ())
        self.assertIs(slim(plan, rule, 0, 1), plan)

    def test_errors(self):
        wrongs = [("plan", NO_PLANS, lambda value: BadPlan("plan")), ("rule", NO_RULES, lambda value: BadRule("rule")),
                  ("delay", NO_DELAYS, BadDelay), ("limit", NO_LIMITS, BadCount)]
        for call in (spare, slim):
            self.assert_refused(call, {"plan": FULL, "rule": ONE, "delay": 1, "limit": 2000}, wrongs)
            self.assert_raised(TooMany("standings", 1), call, Plan.read("0 , 1"), ONE, 1, 1)
            self.assert_refused(call, {"plan": FULL, "rule": ONE, "delay": 1}, wrongs[:3])


def candidates_by_hand(age, extra):
    """The plans in order: by all choices of further sums, put in order by their definition."""
    further = [ages for many in range(1, age + 1) for ages in combinations(range(1, age + 1), many)]
    found = []
    for many in range(extra + 1):
        for chosen_sums in combinations(further, many):
            masks = sorted([1, *[sum(2 ** old for old in ages) for ages in chosen_sums]])
            found.append((many + 1, tuple(masks)))
    plans = []
    for _, masks in sorted(found):
        plans.append(Plan(Tick(*[tuple(old for old in range(5) if mask >> old & 1) for mask in masks])))
    return plans


class TestDefaults(unittest.TestCase):

    def test_limits(self):
        for call in (spare, slim, first_plan):
            self.assertEqual(signature(call).parameters["limit"].default, 2000)


class TestFirst(Errors, unittest.TestCase):

    def test_candidates_in_order(self):
        sizes = {}
        for age, extra in product(range(1, 5), range(3)):
            wanted = candidates_by_hand(age, extra)
            self.assertEqual(len({str(plan) for plan in wanted}), len(wanted))
            # Nothing holds when all can be lost.
            told = first_plan(age, extra, Machine((0, 0)), 2)
            self.assertIs(type(told), Barred)
            self.assertEqual([plan for plan, _ in told.losers], wanted)
            self.assertIs(shows_first(age, extra, Machine((0, 0)), 2, told), True)
            sizes[age, extra] = len(wanted)
        self.assertEqual([sizes[4, extra] for extra in range(3)], [1, 16, 121])
        self.assertEqual([sizes[age, 2] for age in range(1, 5)], [2, 7, 29, 121])

    def test_first_that_is_in_time(self):
        seen = {True: 0, False: 0}
        for age, extra, rule, delay in product(range(1, 5), range(3), RULES, (0, 1, 2, 4)):
            told = first_plan(age, extra, rule, delay)
            plans = candidates_by_hand(age, extra)
            verdicts = [judge(plan, rule, delay) for plan in plans]
            good = [at for at, verdict in enumerate(verdicts) if verdict]
            seen[bool(told)] += 1
            self.assertIs(bool(told), bool(good))
            losers = tuple(zip(plans, verdicts))[:good[0] if good else None]
            self.assertTrue(isinstance(told.losers, tuple) and all(type(pair) is tuple for pair in told.losers))
            self.assertEqual(told.losers, losers)
            for plan, paper in told.losers:
                self.assertIs(type(paper), Late)
                self.assertIs(shows_judged(plan, rule, delay, paper), True)
            if good:
                self.assertIs(type(told), Found)
                self.assertEqual((told.plan, told.table), (plans[good[0]], verdicts[good[0]]))
                self.assertIs(type(told.table), InTime)
            else:
                self.assertIs(type(told), Barred)
            self.assertIs(shows_first(age, extra, rule, delay, told), True)
            self.assertEqual(told, first_plan(limit=2000, delay=delay, rule=rule, extra=extra, age=age))
        self.assertGreater(min(seen.values()), 100)

    def test_limits(self):
        for age, extra, rule, delay in product((1, 2), range(3), RULES, (1, 2)):
            told = first_plan(age, extra, rule, delay)
            limit = 1
            while True:
                judged = [*[plan for plan, _ in told.losers], *([told.plan] if told else [])]
                raised = False
                for plan in judged:
                    try:
                        judge(plan, rule, delay, limit)
                    except TooMany:
                        raised = True
                if not raised:
                    break
                self.assert_raised(TooMany("standings", limit), first_plan, age, extra, rule, delay, limit)
                limit += 1
            self.assertEqual(first_plan(age, extra, rule, delay, limit), told)

    def test_errors(self):
        wrongs = [("age", [0, 5, -1, 10 ** 39, *NO_INTEGERS], BadCount),
                  ("extra", [-1, 3, 10 ** 39, *NO_INTEGERS], BadCount),
                  ("rule", NO_RULES, lambda value: BadRule("rule")), ("delay", NO_DELAYS, BadDelay),
                  ("limit", NO_LIMITS, BadCount)]
        right = {"age": 2, "extra": 1, "rule": ONE, "delay": 1}
        self.assert_refused(first_plan, {**right, "limit": 2000}, wrongs)
        self.assert_refused(first_plan, right, wrongs[:4])
        for value in (None, Barred(()), first_plan(2, 1, ONE, 1)):
            self.assert_refused(shows_first, {**right, "value": value}, wrongs[:4])


class TestShown(Errors, unittest.TestCase):

    def assert_shown(self, setting, paper, wanted):
        self.assertIs(shows_first(*setting, paper), wanted)

    def test_losers_near_the_right_ones(self):
        for setting in ((2, 2, Burst(2, 2), 3), (1, 1, Burst(2, 1), 1), (3, 1, Burst(2, 3), 4), (2, 1, ONE, 2)):
            told = first_plan(*setting)
            losers = told.losers

            def paper(changed):
                return Found(told.plan, told.table, changed) if told else Barred(changed)
            self.assert_shown(setting, paper(losers), True)
            self.assertTrue(losers)
            for at, (plan, late) in enumerate(losers):
                ahead, behind = losers[:at], losers[at + 1:]
                for changed in (ahead + behind, ahead + (losers[at],) * 2 + behind, ahead, ahead + ((late, plan),) + behind,
                                ahead + ([plan, late],) + behind, ahead + ((plan, late, late),) + behind,
                                ahead + ((plan,),) + behind, ahead + (late,) + behind,
                                ahead + ((plan >> 0 | Plan.read("8"), late),) + behind,
                                ahead + ((Plan(*plan, *plan), late),) + behind,
                                ahead + ((plan, InTime(())),) + behind, ahead + ((str(plan), late),) + behind):
                    self.assert_shown(setting, paper(changed), False)
                for value in ANY:
                    self.assert_shown(setting, paper(ahead + (value,) + behind), False)
                    self.assert_shown(setting, paper(ahead + ((plan, value),) + behind), False)
                    if value != plan:
                        self.assert_shown(setting, paper(ahead + ((value, late),) + behind), False)
                same_plan = Plan.read(str(plan))
                self.assert_shown(setting, paper(ahead + ((same_plan, late),) + behind), True)
                for other in (Late(late.losses + ".", (0,) + late.other), Late("." + late.losses, late.other),
                              Late(late.losses, late.other[::-1] + (0,)), Late(late.losses, list(late.other))):
                    wanted = shows_judged(plan, setting[2], setting[3], other)
                    self.assert_shown(setting, paper(ahead + ((plan, other),) + behind), wanted)
                longer = Late("." + late.losses, (0,) + late.other)
                self.assert_shown(setting, paper(ahead + ((plan, longer),) + behind),
                                  shows_judged(plan, setting[2], setting[3], longer))
            for at in range(len(losers) - 1):
                changed = losers[:at] + (losers[at + 1], losers[at]) + losers[at + 2:]
                self.assert_shown(setting, paper(changed), False)
            self.assert_shown(setting, paper(list(losers)), False)
            self.assert_shown(setting, paper(losers + losers[-1:]), False)
            self.assert_shown(setting, paper(()), False)
            for value in ANY:
                self.assert_shown(setting, paper(value), False)

    def test_the_plan_and_its_table(self):
        setting = (2, 2, ONE, 2)
        told = first_plan(*setting)
        self.assertEqual((str(told.plan), len(told.losers)), ("0 , 1", 1))
        for value in ANY:
            self.assert_shown(setting, Found(value, told.table, told.losers), False)
            self.assert_shown(setting, Found(told.plan, value, told.losers), False)
        self.assert_shown(setting, Found(told.plan, told.table.table, told.losers), False)
        self.assert_shown(setting, Found(told.plan, InTime(list(told.table.table)), told.losers), False)
        self.assert_shown(setting, Found(told.plan, InTime(told.table.table[::-1]), told.losers), True)
        self.assert_shown(setting, Found(told.plan, InTime(told.table.table[:1]), told.losers), False)
        self.assert_shown(setting, Found(told.plan, InTime(told.table.table * 3), told.losers), True)
        for text in ("0 , 1 / 0 , 1", "0 , 1 , 1 2", "1 , 0", "0 , 3", "0 , 1 , 2 , 1 2", "0 , 0 1", "0 , 2 , 1", "0"):
            other = Plan.read(text)
            verdict = judge(other, ONE, 2)
            self.assert_shown(setting, Found(other, told.table, told.losers), False)
            self.assert_shown(setting, Found(other, verdict, told.losers), False)

    def test_a_later_candidate_is_none_ahead(self):
        # A Found tells of all candidates ahead of its plan, so a plan behind the first one has no right losers.
        setting = (2, 2, ONE, 2)
        plans = candidates_by_hand(2, 2)
        for at, plan in enumerate(plans):
            verdict = judge(plan, ONE, 2)
            pairs = tuple((other, judge(other, ONE, 2)) for other in plans[:at])
            wanted = bool(verdict) and not any(late for _, late in pairs)
            self.assert_shown(setting, Found(plan, verdict, pairs), wanted)
            late = tuple(pair for pair in pairs if not pair[1])
            self.assert_shown(setting, Found(plan, verdict, late), wanted)
        self.assert_shown(setting, Barred(tuple((plan, judge(plan, ONE, 2)) for plan in plans)), False)

    def test_barred_needs_all_candidates(self):
        setting = (2, 1, Burst(2, 1), 1)
        told = first_plan(*setting)
        self.assertFalse(told)
        self.assert_shown(setting, told, True)
        self.assert_shown((1, 1, *setting[2:]), told, False)
        self.assert_shown((2, 2, *setting[2:]), told, False)
        self.assert_shown((2, 1, Total(1), 1), told, False)
        self.assert_shown((2, 1, Burst(2, 1), 8), told, False)
        self.assert_shown((1, 1, *setting[2:]), first_plan(1, 1, *setting[2:]), True)
        self.assert_shown(setting, Found(told.losers[0][0], InTime(()), ()), False)

    def test_a_table_of_another_plan(self):
        setting = (1, 1, ONE, 1)
        told = first_plan(*setting)
        other = judge(Plan.read("0"), Total(0), 1)
        self.assert_shown(setting, Found(told.plan, other, told.losers), False)
        wide = InTime((Standing(0, 0, Space(1, 2)), Standing(0, 1, Space(1, 2))))
        self.assert_shown(setting, Found(told.plan, wide, told.losers), False)
        self.assert_shown(setting, Found(told.plan, judge(Plan.read("0 , 1"), ONE, 1), told.losers), True)

    def test_any_other_value(self):
        for value in ANY:
            if not isinstance(value, (Found, Barred)):
                self.assert_shown((1, 0, ONE, 1), value, False)
        self.assert_shown((1, 0, ONE, 1), Barred(((Plan.read("0"), judge(Plan.read("0"), ONE, 1)),)), True)
        self.assert_shown((1, 0, Total(0), 1), Found(Plan.read("0"), judge(Plan.read("0"), Total(0), 1), ()), True)

    def test_plans_that_are_near(self):
        self.assertEqual([str(plan) for plan in (copies(1), parity(1))], ["0 , 1", "0 / mute 1"])
        setting = (1, 1, ONE, 1)
        told = first_plan(*setting)
        self.assert_shown(setting, Found(copies(1), told.table, told.losers), True)
        self.assert_shown(setting, Found(parity(1), told.table, told.losers), False)


if __name__ == "__main__":
    unittest.main()
