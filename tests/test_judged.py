"""Whether plans are in time: verdicts as the test's own searches find them, and what shows them."""

import random
import unittest
from itertools import product

from laterepair.errors import BadCount, BadDelay, BadPlan, BadRule, TooMany
from laterepair.judged import InTime, Late, judge
from laterepair.look_judged import shows_judged
from laterepair.plans import Plan, Tick, copies, parity
from laterepair.rules import Burst, Machine, Total, Window
from laterepair.spaces import Space
from laterepair.standings import Standing, least, ordered, reached
from tests.helpers import ANY, NO_DELAYS, NO_LIMITS, NO_PLANS, NO_RULES, Errors, all_texts, texts_up_to
from tests.worlds import agrees, block_rule, closed_by_hand, is_late, known_sums, parts_of, search, state_of

PLANS = [
    Plan.read(text) for text in (
        "0", "-", "mute -", "0 , 1", "0 , 1 2", "0 , 1 , 2", "0 1 , 0 3 5 , 2", "mute 1 2 / 0", "0 / 0 / mute 1 2",
        "mute 1 / mute 2 / mute -", "0 , 1 / 0 , 2 3 / mute 1 , 4", "0 / 0 , 1 2 3 / - / 0 , 4 5 6 7 8", "0 , 2 , 3 4",
    )
]
RULES = [
    Total(0), Total(1), Total(2), Burst(1, 1), Burst(1, 2), Burst(2, 3), Window(2, 4), Window(1, 6), Machine((0, 0)),
    Machine((0, 1), (0, 2), (0, None)), Machine((1, None), (2, None), (0, 0)), Burst(1, 2) & Total(2),
    Window(1, 3) | Total(1),
]
COPY, SINGLE = copies(1), Machine((0, 1), (0, None))
SETTING = [
    ("plan", NO_PLANS, lambda value: BadPlan("plan")), ("rule", NO_RULES, lambda value: BadRule("rule")),
    ("delay", NO_DELAYS, BadDelay),
]
RIGHT = {"plan": COPY, "rule": SINGLE, "delay": 1}


def settings():
    """Plans, rules and delays, each plan with each rule, and each of them with delays from 0 to 8."""
    for (at, plan), (nth, rule) in product(enumerate(PLANS), enumerate(RULES)):
        for delay in range((at + nth) % 3, 6, 3):
            yield plan, rule, delay
        if (at + nth) % 4 == 0:
            yield plan, rule, 6 + (at + nth) // 4 % 3


SETTINGS = list(settings())


class TestJudge(Errors, unittest.TestCase):

    def test_verdicts(self):
        many = {True: 0, False: 0}
        for plan, rule, delay in SETTINGS:
            states, ticks = search([plan], rule, delay, lambda state: is_late(state, delay))
            told = judge(plan, rule, delay)
            many[bool(told)] += 1
            if ticks is None:
                self.assertEqual(told, InTime(least(plan, rule, delay)))
            else:
                self.assertIs(type(told), Late)
                self.assertEqual(len(told.losses), ticks)
                self.assertIn(told.losses, rule)
                self.assert_stream(plan, delay, told)
            self.assertIs(shows_judged(plan, rule, delay, told), True)
            self.assertEqual(told, judge(delay=delay, rule=rule, plan=plan, limit=len(states)))
            for limit in {len(states) - 1, 1} - {0, len(states)}:
                self.assert_raised(TooMany("standings", limit), judge, plan, rule, delay, limit)
        self.assertGreater(min(many.values()), 100)

    def assert_stream(self, plan, delay, told):
        self.assertIsInstance(told.other, tuple)
        self.assertTrue(all(type(row) is int and row in (0, 1) for row in told.other))
        self.assertTrue(agrees(plan, told.losses, told.other, len(told.losses) - 1 - delay))

    def test_against_the_definition_alone(self):
        for plan, rule, delay in SETTINGS[::3]:
            if delay > 4:
                continue
            told = judge(plan, rule, delay)
            shortest = None
            for text in texts_up_to(7):
                # A row is late if what came by the end of its last tick in time does not tell it.
                if len(text) > delay and text in rule:
                    if 2 ** delay not in known_sums(plan, text, delay, False):
                        shortest = len(text)
                        break
            if shortest is not None:
                self.assertEqual(len(told.losses), shortest)
            elif not told:
                self.assertGreater(len(told.losses), 7)

    def test_plans_of_mute_ticks_alone(self):
        for text in ("mute -", "mute 1", "mute 1 2 / mute -", "mute 8 / mute 1 / mute 3 4"):
            plan = Plan.read(text)
            for rule, delay in product(RULES, range(9)):
                whole = Space.whole(delay + 1)
                told = judge(plan, rule, delay)
                self.assertTrue(told)
                self.assertTrue(all(one.space == whole for one in told.table))
                self.assertIs(shows_judged(plan, rule, delay, told), True)

    def test_limits(self):
        ticks = [Tick(*[(age,) for age in (0, 5, 6, 7, 8)[at % 5:] + (0, 5, 6, 7, 8)[:at % 5]]) for at in range(6)]
        plan, rule = Plan(*ticks), block_rule(13, 2)
        self.assert_raised(TooMany("standings", 2000), judge, plan, rule, 8)
        self.assert_raised(TooMany("standings", 2099), judge, plan, rule, 8, limit=2099)
        told = judge(plan, rule, 8, 2100)
        self.assertEqual(told, InTime(least(plan, rule, 8, 5000)))
        self.assertIs(shows_judged(plan, rule, 8, told), True)

    def test_what_late_losses_do_not_count(self):
        self.assertEqual(judge(Plan(Tick((0,))), Machine((0, 0)), 0, 1), Late("x", (1,)))
        self.assertEqual(judge(COPY, Machine((0, 0)), 1, limit=2), Late("xx", (1, 0)))
        self.assert_raised(TooMany("standings", 1), judge, COPY, Machine((0, 0)), 1, limit=1)

    def test_errors(self):
        self.assert_refused(judge, {**RIGHT, "limit": 1}, [*SETTING, ("limit", NO_LIMITS, BadCount)])
        self.assert_refused(judge, RIGHT, SETTING)
        self.assert_refused(shows_judged, {**RIGHT, "value": InTime(())}, SETTING)


class TestClosedForms(unittest.TestCase):

    def test_one_copy_under_bursts(self):
        for age, most, gap in product(range(1, 9), range(1, 9), range(1, 13)):
            told = judge(copies(age), Burst(most, gap), age)
            self.assertIs(bool(told), most <= age <= gap, (age, most, gap))

    def test_copies_under_totals(self):
        for ages in ((), (1,), (2, 5), (1, 2, 3), (8, 3, 1, 6), (1, 2, 3, 4, 5)):
            for most, delay in product(range(7), range(9)):
                in_time = len([age for age in ages if age <= delay])
                self.assertIs(bool(judge(copies(*ages), Total(most), delay)), most <= in_time)

    def test_parity(self):
        for size, delay in product(range(1, 6), range(9)):
            self.assertIs(bool(judge(parity(size), Total(1), delay)), delay >= size)
            self.assertIs(bool(judge(parity(size), Total(2), delay)), False)
            self.assertIs(bool(judge(parity(size), Total(0), delay)), True)
            told = judge(parity(size), Total(2), size)
            self.assertEqual(told.losses.count("x"), 2)
            self.assertEqual(len(told.losses), size + 1)

    def test_more_sums_never_hurt(self):
        further = [(0,), (1,), (2,), (0, 1), (1, 3), (2, 4, 5)]
        for plan, rule, delay in SETTINGS[::2]:
            if judge(plan, rule, delay):
                for phase, ages in product(range(len(plan)), further):
                    if ages not in plan[phase] and len(plan[phase]) < 6 and not (plan[phase].mute and ages[0] == 0):
                        more = plan.with_phase(phase, plan[phase] + ages)
                        self.assertTrue(judge(more, rule, delay))

    def test_a_longer_delay_never_hurts(self):
        for plan, rule in product(PLANS, RULES):
            in_time = [bool(judge(plan, rule, delay)) for delay in range(9)]
            self.assertEqual(in_time, sorted(in_time))

    def test_a_plan_turned_round(self):
        for plan, rule, delay in SETTINGS:
            if rule.ways[0][0] == 0:
                wanted = bool(judge(plan, rule, delay))
                for number in range(1, len(plan)):
                    self.assertIs(bool(judge(plan >> number, rule, delay)), wanted)

    def test_rules_that_let_less(self):
        for plan, rule, delay in SETTINGS[::2]:
            if judge(plan, rule, delay):
                self.assertTrue(judge(plan, rule & Total(1), delay))
                self.assertTrue(judge(plan, rule & Burst(1, 4), delay))


def late_by_hand(plan, rule, delay, losses, other):
    """Whether a Late of a text and a tuple of 0 and 1 is right."""
    if losses.strip(".x") or losses not in rule or not delay < len(losses) == len(other):
        return False
    return agrees(plan, losses, other, len(losses) - 1 - delay)


def in_time_by_hand(plan, rule, delay, table):
    """Whether an InTime of a tuple of Standings of integers and Spaces is right."""
    for one in table:
        if not 0 <= one.phase < len(plan) or not 0 <= one.place < rule.places:
            return False
        if any(row >= 2 ** (delay + 1) for row in one.space.rows) or not one.space.tells(delay):
            return False
    return closed_by_hand([plan], rule, delay, [state_of(one) for one in table])


def changed_tables(plan, rule, delay, table):
    """Tables near this one: a standing left out, doubled, put in or changed, or another order."""
    further = [Standing(phase, place, Space(*rows)) for phase, place in ((0, 0), (len(plan) - 1, rule.places - 1))
               for rows in ((), (2 ** delay,), (1, 2 ** delay), (2 ** (delay + 1),))]
    yield table[::-1]
    yield table + table
    yield ()
    for at, one in enumerate(table):
        yield table[:at] + table[at + 1:]
        yield table[:at] + (one, one) + table[at + 1:]
        yield (table[at],)
        for other in further:
            yield table[:at] + (other,) + table[at:]
        for row in one.space.rows:
            fewer = [rest for rest in one.space.rows if rest != row]
            yield table[:at] + (Standing(one.phase, one.place, Space(*fewer)),) + table[at + 1:]
        for phase, place, space in ((one.phase + 1, one.place, one.space), (one.phase - 1, one.place, one.space),
                                    (one.phase, one.place + 1, one.space), (one.phase, one.place - 1, one.space),
                                    (one.phase, one.place, one.space + Space(1)), (one.phase, one.place, Space()),
                                    (one.phase, one.place, one.space + Space(2 ** (delay + 1)))):
            yield table[:at] + (Standing(phase, place, space),) + table[at + 1:]


class TestShown(Errors, unittest.TestCase):

    def test_tables_near_the_right_one(self):
        many = {True: 0, False: 0}
        tried = 0
        for plan, rule, delay in SETTINGS:
            told = judge(plan, rule, delay)
            if not told or len(told.table) > 12 or delay > 4:
                continue
            tried += 1
            for table in changed_tables(plan, rule, delay, told.table):
                wanted = in_time_by_hand(plan, rule, delay, table)
                self.assertIs(shows_judged(plan, rule, delay, InTime(table)), wanted, parts_of(table))
                many[wanted] += 1
        self.assertGreater(tried, 60)
        self.assertGreater(min(many.values()), 500)

    def test_all_that_is_reached_is_a_table(self):
        chooser = random.Random(9)
        for plan, rule, delay in SETTINGS:
            if judge(plan, rule, delay):
                table = list(reached(plan, rule, delay))
                chooser.shuffle(table)
                self.assertIs(shows_judged(plan, rule, delay, InTime(tuple(table))), True)

    def test_tables_of_other_settings(self):
        for plan, rule, delay in SETTINGS[::5]:
            for other_plan, other_rule, other_delay in SETTINGS[::11]:
                told = judge(other_plan, other_rule, other_delay)
                if told and len(told.table) < 20:
                    wanted = in_time_by_hand(plan, rule, delay, told.table)
                    self.assertIs(shows_judged(plan, rule, delay, told), wanted)
                elif not told:
                    wanted = late_by_hand(plan, rule, delay, told.losses, told.other)
                    self.assertIs(shows_judged(plan, rule, delay, told), wanted)

    def test_lesser_spaces(self):
        thrice = copies(1, 2)
        self.assertIs(shows_judged(thrice, SINGLE, 2, InTime((Standing(0, 0, Space(2, 4)), Standing(0, 1, Space(4))))), True)
        self.assertIs(shows_judged(thrice, SINGLE, 2, InTime((Standing(0, 0, Space(4)), Standing(0, 1, Space(4))))), False)
        self.assertIs(shows_judged(thrice, SINGLE, 2, InTime((Standing(0, 0, Space(2)), Standing(0, 1, Space(4))))), False)

    def test_sizes_of_tables(self):
        table = judge(COPY, SINGLE, 1).table
        self.assertEqual(len(table), 2)
        self.assertIs(shows_judged(COPY, SINGLE, 1, InTime(table * 2500)), True)
        self.assertIs(shows_judged(COPY, SINGLE, 1, InTime(table * 2500 + table[:1])), False)
        self.assertIs(shows_judged(COPY, SINGLE, 1, InTime(table * 100000)), False)
        chooser = random.Random(1)
        unlike = {Space(256, *[chooser.randrange(256) for _ in range(5)]).rows for _ in range(4998)}
        spaces = [Space(*rows) for rows in unlike]
        plan = Plan.read("0 , 1 , 2 , 3 , 4 , 8")
        low = judge(plan, SINGLE, 8).table
        more = tuple(Standing(0, 0, low[0].space + space) for space in spaces)
        self.assertIs(shows_judged(plan, SINGLE, 8, InTime((more + low)[-5000:])), True)
        self.assertIs(shows_judged(plan, SINGLE, 8, InTime(low[:1] + (more * 2)[:4999])), False)

    def test_other_kinds_in_tables(self):
        table = judge(COPY, SINGLE, 1).table
        self.assertIs(shows_judged(COPY, SINGLE, 1, InTime(list(table))), False)
        self.assertIs(shows_judged(COPY, SINGLE, 1, InTime({one.place: one for one in table})), False)
        for value in ANY:
            self.assertIs(shows_judged(COPY, SINGLE, 1, InTime(value)), False)
            self.assertIs(shows_judged(COPY, SINGLE, 1, value), False)
            if not isinstance(value, Standing) or value.phase is None:
                self.assertIs(shows_judged(COPY, SINGLE, 1, InTime(table + (value,))), False)
            for wrong in (Standing(value, 0, Space(1, 2)), Standing(0, value, Space(1, 2)), Standing(0, 0, value)):
                self.assertIs(shows_judged(COPY, SINGLE, 1, InTime(table + (wrong,))), False, value)
        for wrong in (Standing(False, 0, Space(2)), Standing(0, True, Space(2)), Standing(0, 1, (2,))):
            self.assertIs(shows_judged(COPY, SINGLE, 1, InTime(table + (wrong,))), False)
        self.assertIs(shows_judged(COPY, SINGLE, 1, table), False)

    def test_losses_near_the_right_ones(self):
        many = {True: 0, False: 0}
        for plan, rule, delay in SETTINGS:
            told = judge(plan, rule, delay)
            if told:
                continue
            for losses, other in changed_streams(told.losses, told.other):
                wanted = late_by_hand(plan, rule, delay, losses, other)
                self.assertIs(shows_judged(plan, rule, delay, Late(losses, other)), wanted, (losses, other))
                many[wanted] += 1
        self.assertGreater(min(many.values()), 500)

    def test_all_short_streams(self):
        for plan, rule, delay in ((COPY, RULES[9], 1), (parity(1), Total(2), 1), (PLANS[6], RULES[8], 2),
                                  (PLANS[10], RULES[8], 0), (Plan.read("mute 1 2 / 0"), RULES[8], 2)):
            for ticks in range(6):
                for losses, other in product(all_texts(ticks), product((0, 1), repeat=ticks)):
                    wanted = late_by_hand(plan, rule, delay, losses, other)
                    self.assertIs(shows_judged(plan, rule, delay, Late(losses, other)), wanted, (losses, other))

    def test_late_rows_at_mute_ticks(self):
        plan = Plan.read("0 / mute -")
        self.assertIs(shows_judged(plan, RULES[8], 0, Late("x", (1,))), True)
        self.assertIs(shows_judged(plan, RULES[8], 0, Late("xx", (0, 1))), False)
        self.assertIs(shows_judged(plan, RULES[8], 1, Late("xx", (1, 0))), True)
        self.assertIs(shows_judged(plan, RULES[8], 1, Late("xx", (1, 1))), False)
        self.assertIs(shows_judged(plan, RULES[8], 1, Late("xxx", (0, 1, 0))), False)

    def test_lengths(self):
        rule = RULES[9]
        self.assertIs(shows_judged(COPY, rule, 1, Late(".." * 999 + "xx", (0, 0) * 999 + (1, 0))), True)
        self.assertIs(shows_judged(COPY, rule, 1, Late("." + ".." * 999 + "xx", (0,) + (0, 0) * 999 + (1, 0))), False)
        self.assertIs(shows_judged(COPY, rule, 1, Late("." * 99998 + "xx", (0,) * 99998 + (1, 0))), False)
        self.assertIs(shows_judged(COPY, RULES[8], 1, Late("xx" + ".x" * 999, (0, 0) + (0, 1) * 999)), False)
        self.assertIs(shows_judged(COPY, RULES[8], 1, Late("x" * 2000, (1,) * 2000)), True)
        for ticks in range(9):
            self.assertIs(shows_judged(COPY, RULES[8], 8, Late("x" * ticks, (1,) * ticks)), False)
        self.assertIs(shows_judged(COPY, RULES[8], 8, Late("x" * 9, (1,) * 9)), True)
        self.assertIs(shows_judged(COPY, RULES[8], 0, Late("", ())), False)

    def test_other_kinds_in_streams(self):
        rule = RULES[9]
        self.assertIs(shows_judged(COPY, rule, 1, Late("xx", (1, 0))), True)
        for value in ANY:
            self.assertIs(shows_judged(COPY, rule, 1, Late(value, (1, 0))), False)
            self.assertIs(shows_judged(COPY, rule, 1, Late("xx", value)), False)
            if type(value) is not int:
                self.assertIs(shows_judged(COPY, rule, 1, Late("xx", (value, 0))), False)
                self.assertIs(shows_judged(COPY, rule, 1, Late("xx", (1, value))), False)
        for other in ([1, 0], (True, 0), (1, False), (1, 2), (1, -1), (3, 0), "10", (1,), (1, 0, 0), (1, None)):
            self.assertIs(shows_judged(COPY, rule, 1, Late("xx", other)), False)
        for losses in ("xx\n", "xX", "xy", " xx", ["x", "x"], b"xx"):
            self.assertIs(shows_judged(COPY, rule, 1, Late(losses, (1, 0))), False)

    def test_nothing_is_changed(self):
        table = list(judge(COPY, SINGLE, 1).table)
        paper = InTime(tuple(table[::-1]))
        self.assertIs(shows_judged(value=paper, delay=1, rule=SINGLE, plan=COPY), True)
        self.assertEqual(paper.table, tuple(table[::-1]))
        self.assertEqual(ordered(paper.table), tuple(table))


def changed_streams(losses, other):
    """Losses and bits near these: one letter or bit exchanged, put in, or taken out, at one place or at both."""
    yield losses, other
    yield losses + ".", other + (0,)
    yield "." + losses, (0,) + other
    for at in range(len(losses)):
        letter, bit = "." if losses[at] == "x" else "x", 1 - other[at]
        less, fewer = losses[:at] + losses[at + 1:], other[:at] + other[at + 1:]
        yield losses[:at] + letter + losses[at + 1:], other
        yield losses, other[:at] + (bit,) + other[at + 1:]
        yield losses[:at] + letter + losses[at + 1:], other[:at] + (bit,) + other[at + 1:]
        yield less, fewer
        yield less, other
        yield losses, fewer
        yield losses[:at] + "y" + losses[at + 1:], other
        for put in ".x":
            for row in (0, 1):
                yield losses[:at] + put + losses[at:], other[:at] + (row,) + other[at:]


if __name__ == "__main__":
    unittest.main()
