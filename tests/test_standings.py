"""Standings: the first one, steps, those behind losses, those that are reached, and the least ones."""

import random
import unittest
from itertools import product

from laterepair.errors import BadCount, BadDelay, BadLosses, BadPlan, BadRule, BadSpace, TooMany
from laterepair.plans import Plan, Tick, copies, parity
from laterepair.rules import Burst, Machine, Total, Window
from laterepair.spaces import Space
from laterepair.standings import Standing, least, ordered, reached, standing_behind, start, step
from tests.helpers import ANY, NO_BOOLS, NO_DELAYS, NO_LIMITS, NO_PLANS, NO_RULES, Errors, texts_up_to
from tests.worlds import block_rule, first_state, is_late, known_sums, least_states, parts_of, rows_of, search
from tests.worlds import sorted_parts, state_after, state_of, states_along

PLANS = [
    Plan.read(text) for text in (
        "0", "-", "mute -", "0 , 1", "0 , 1 2", "0 , 8", "0 1 , 0 3 5 , 2", "mute 1 2 / 0", "0 / 0 / mute 1 2",
        "0 , 1 / 0 , 2 3 / mute 1 , 4", "0 / 0 , 1 2 3 / - / 0 , 4 5 6 7 8", "0 , 1 / 0 , 2 / 0 , 3 / 0 / 0 1 / mute 5",
    )
]
RULES = [
    Total(0), Total(2), Burst(1, 1), Burst(2, 2), Window(2, 4), Machine((0, 0)), Machine((0, 1), (0, 2), (0, None)),
    Machine((1, None), (0, 0)), Burst(1, 2) & Total(2), Window(1, 3) | Total(1),
]
COPY, SINGLE = copies(1), Machine((0, 1), (0, None))
NO_LOSSES = [value for value in ANY if not (isinstance(value, str) and value.strip(".x") == "")]
NO_LOSSES += ["." * 2001, "x" * 2001, ".y", "x\n", " "]
SETTING = [
    ("plan", NO_PLANS, lambda value: BadPlan("plan")), ("rule", NO_RULES, lambda value: BadRule("rule")),
    ("delay", NO_DELAYS, BadDelay),
]
RIGHT = {"plan": COPY, "rule": SINGLE, "delay": 1}


def parts(standing):
    return None if standing is None else (standing.phase, standing.place, standing.space.rows)


def state_parts(state):
    return None if state is None else (state[0], state[1], rows_of(state[2][0]))


class TestSteps(Errors, unittest.TestCase):

    def test_start(self):
        for plan, rule, delay in product(PLANS, RULES[:3], range(9)):
            self.assertEqual(start(plan, rule, delay), Standing(0, 0, Space.whole(delay + 1)))
        self.assertIsInstance(start(delay=1, plan=COPY, rule=SINGLE), Standing)

    def test_standing_behind_losses(self):
        for (at, plan), delay in product(enumerate(PLANS), range(9)):
            for rule in RULES[(at + delay) % 3::3]:
                for text in texts_up_to(3) + [".x.xx.x..x", "xx...xx", "xxxxxxxx", "x.x.x.x.x.x.", "..........x", "xx" * 8]:
                    told = standing_behind(plan, rule, delay, text)
                    self.assertEqual(parts(told), state_parts(states_along([plan], rule, delay, text)[-1]))
                    self.assertIs(told is None, text not in rule)
                    if told is not None:
                        self.assertIs(type(told), Standing)

    def test_just_what_can_be_known(self):
        chooser = random.Random(5)
        for plan, delay in product(PLANS, range(6)):
            for text in chooser.sample(texts_up_to(8), 12):
                states = states_along([plan], RULES[5], delay, text)
                if not any(is_late(state, delay) for state in states):
                    wanted = rows_of(known_sums(plan, text, delay, True))
                    self.assertEqual(standing_behind(plan, RULES[5], delay, text).space.rows, wanted)

    def test_step_by_step(self):
        for plan, rule, delay in product(PLANS[3:], RULES[1:7:2], (0, 2, 5)):
            standing = start(plan, rule, delay)
            text = ""
            for letter in "..x.xx..x.x.xxx....x..":
                after = step(plan, rule, delay, standing, letter == "x")
                if after is None:
                    self.assertIsNone(standing_behind(plan, rule, delay, text + letter))
                    continue
                text += letter
                standing = after
                self.assertEqual(standing, standing_behind(plan, rule, delay, text))

    def test_steps_from_any_standing(self):
        chooser = random.Random(3)
        for plan, rule, delay in product(PLANS, RULES, range(9)):
            rows = [chooser.randrange(2 ** (delay + 1)) for _ in range(chooser.randint(0, delay + 1))]
            standing = Standing(chooser.randrange(len(plan)), chooser.randrange(rule.places), Space(*rows))
            for is_lost in (False, True):
                wanted = state_after([plan], rule, delay, state_of(standing), is_lost)
                self.assertEqual(parts(step(plan, rule, delay, standing, is_lost)), state_parts(wanted))
                self.assertEqual(standing.space, Space(*rows))

    def test_a_space_within_another_one_stays_within_it(self):
        chooser = random.Random(4)
        for plan, delay in product(PLANS, range(1, 9)):
            rows = [chooser.randrange(2 ** (delay + 1)) for _ in range(delay)]
            for phase, is_lost in product(range(len(plan)), (False, True)):
                less = step(plan, RULES[5], delay, Standing(phase, 0, Space(*rows[1:])), is_lost)
                more = step(plan, RULES[5], delay, Standing(phase, 0, Space(*rows)), is_lost)
                self.assertTrue(less.space.within(more.space))

    def test_what_is_left_out_by_a_step(self):
        self.assertEqual(parts(step(Plan(Tick()), Total(0), 1, Standing(0, 0, Space(3)), False)), (0, 0, ()))
        self.assertEqual(parts(step(Plan(Tick()), Total(0), 1, Standing(0, 0, Space(1)), False)), (0, 0, (2,)))
        self.assertEqual(parts(step(Plan(Tick((0, 2))), Total(0), 1, Standing(0, 0, Space()), False)), (0, 0, (1,)))
        self.assertEqual(parts(step(Plan(Tick((2,))), Total(0), 1, Standing(0, 0, Space()), False)), (0, 0, ()))
        self.assertEqual(parts(step(Plan(Tick(mute=True)), Total(0), 8, Standing(0, 0, Space()), False)), (0, 0, (1,)))
        lost = step(Plan(Tick((1,), mute=True), Tick((0,))), Total(1), 2, Standing(0, 0, Space()), True)
        self.assertEqual(parts(lost), (1, 1, (1,)))

    def test_losses_that_are_not_let(self):
        self.assertIsNone(step(COPY, SINGLE, 1, Standing(0, 1, Space(2)), True))
        self.assertIsNone(standing_behind(COPY, SINGLE, 1, ".xx"))
        self.assertIsNone(standing_behind(COPY, SINGLE, 1, "x" * 2000))

    def test_many_ticks(self):
        for plan in PLANS:
            told = standing_behind(plan, Total(0), 8, "." * 2000)
            self.assertEqual((told.phase, told.place), (2000 % len(plan), 0))
            self.assertEqual(told.space, standing_behind(plan, Total(0), 8, "." * (2000 - 60)).space)
        self.assertEqual(parts(standing_behind(COPY, SINGLE, 1, "x." * 1000)), (0, 0, (1, 2)))
        self.assert_raised(BadLosses("x." * 1000 + "."), standing_behind, COPY, SINGLE, 1, "x." * 1000 + ".")


class TestOrdered(unittest.TestCase):

    def test_any_order(self):
        chooser = random.Random(2)
        rows = [(), (1,), (1, 2), (1, 2, 4), (1, 4), (1, 10), (2,), (2, 4), (10,), (3, 4), (9, 10, 4)]
        spaces = [Space(*some) for some in rows]
        keys = [(phase, place, space) for phase in (0, 2, 9, 10, 11, 100) for place in (0, 1, 9, 10, 39) for space in spaces]
        standings = [Standing(*key) for key in keys]
        wanted = sorted((phase, place, space.rows) for phase, place, space in keys)
        for _ in range(20):
            chooser.shuffle(standings)
            passed = list(standings)
            self.assertEqual(parts_of(ordered(passed)), wanted)
            self.assertIsInstance(ordered(passed), tuple)
            self.assertTrue(all(one is two for one, two in zip(passed, standings)))
            self.assertEqual(len(passed), len(standings))
            self.assertEqual(ordered(tuple(passed)), ordered(standings=passed))

    def test_few(self):
        self.assertEqual(ordered([]), ())
        self.assertEqual(ordered(()), ())
        one = Standing(0, 0, Space())
        self.assertIs(ordered([one])[0], one)


class TestReached(Errors, unittest.TestCase):

    def settings(self):
        for (at, plan), (nth, rule) in product(enumerate(PLANS), enumerate(RULES)):
            for delay in range((at + nth) % 3, 7, 3):
                yield plan, rule, delay

    def test_reached_and_least(self):
        late = 0
        for plan, rule, delay in self.settings():
            states, _ = search([plan], rule, delay, lambda state: is_late(state, delay), stops=False)
            told = reached(plan, rule, delay)
            self.assertIsInstance(told, tuple)
            self.assertEqual(parts_of(told), sorted_parts(states))
            self.assertTrue(all(one.space.tells(delay) for one in told))
            lows = least(plan, rule, delay)
            self.assertIsInstance(lows, tuple)
            self.assertEqual(parts_of(lows), sorted_parts(least_states(states)))
            self.assertEqual(lows, least(limit=len(told), delay=delay, rule=rule, plan=plan))
            self.assertEqual(told, reached(plan, rule, delay, len(told)))
            late += any(is_late(state_after([plan], rule, delay, state, True) or state, delay) for state in states)
            for call in (reached, least):
                for limit in {len(told) - 1, 1, len(told) // 2} - {0, len(told)}:
                    self.assert_raised(TooMany("standings", limit), call, plan, rule, delay, limit)
                    self.assert_raised(TooMany("standings", limit), call, plan, rule, delay, limit=limit)
        self.assertGreater(late, 50)

    def test_long_delays(self):
        for plan, rule, delay in product(PLANS[7:], (Burst(2, 3), Total(2)), (7, 8)):
            states, _ = search([plan], rule, delay, lambda state: is_late(state, delay), stops=False)
            self.assertEqual(parts_of(reached(plan, rule, delay)), sorted_parts(states))
            self.assertEqual(parts_of(least(plan, rule, delay)), sorted_parts(least_states(states)))

    def test_only_what_makes_no_row_late(self):
        self.assertEqual(parts_of(reached(Plan(Tick((0,))), Machine((0, 0)), 0)), [(0, 0, (1,))])
        self.assertEqual(parts_of(reached(COPY, Machine((0, 0)), 1)), [(0, 0, (1, 2)), (0, 0, (2,))])
        self.assertEqual(parts_of(least(COPY, Machine((0, 0)), 1)), [(0, 0, (2,))])
        self.assertEqual(parts_of(reached(Plan(Tick()), Total(0), 2)), [(0, 0, (1, 2, 4)), (0, 0, (2, 4)), (0, 0, (4,))])
        self.assertEqual(parts_of(least(Plan(Tick()), Total(0), 2)), [(0, 0, (4,))])

    def test_limits(self):
        plan = Plan.read("0 , 1 2 3 / 0 , 0 6 7 / 0 , 1")
        self.assertEqual(len(reached(plan, Total(12), 8, limit=5000)), 2078)
        for call in (reached, least):
            self.assert_raised(TooMany("standings", 2000), call, plan, Total(12), 8)
            self.assert_raised(TooMany("standings", 2077), call, plan, Total(12), 8, 2077)
        self.assertEqual(least(plan, Total(12), 8, 2078), least(plan, Total(12), 8, 5000))
        ticks = [Tick(*[(age,) for age in (0, 5, 6, 7, 8)[at % 5:] + (0, 5, 6, 7, 8)[:at % 5]]) for at in range(6)]
        self.assertEqual(len(reached(Plan(*ticks), block_rule(13, 2), 8, 2100)), 2100)
        self.assert_raised(TooMany("standings", 2099), reached, Plan(*ticks), block_rule(13, 2), 8, 2099)

    def test_a_table_that_is_whole(self):
        for size in range(1, 6):
            table = reached(parity(size), Total(0), 8)
            self.assertEqual(parts_of(table), [(phase, 0, Space.whole(9).rows) for phase in range(size + 1)])

    def test_the_first_state_counts(self):
        self.assertEqual(state_of(start(COPY, SINGLE, 3)), first_state([COPY], 3))


class TestErrors(Errors, unittest.TestCase):

    def test_start(self):
        self.assert_refused(start, RIGHT, SETTING)

    def test_step(self):
        wrong = [
            *[value for value in ANY if not isinstance(value, Standing)],
            *[Standing(phase, 0, Space(1)) for phase in (True, False, -1, 1, None, "0", 10 ** 39, (0,))],
            *[Standing(0, place, Space(1)) for place in (True, False, -1, 2, None, "0", 10 ** 39, [0])],
            *[Standing(0, 0, value) for value in ANY if not (isinstance(value, Space) and value.rows in ((), (1,), (3,)))],
            *[Standing(0, 0, space) for space in (Space(4), Space(1, 4), Space(5, 6), Space(2 ** 15))],
        ]
        self.assert_refused(step, {**RIGHT, "standing": Standing(0, 1, Space(2)), "is_lost": True}, [
            *SETTING, ("standing", wrong, lambda value: BadSpace("standing")), ("is_lost", NO_BOOLS, BadLosses)])
        three = Plan(*COPY, *COPY, *COPY)
        for phase in range(3):
            self.assertEqual(step(three, SINGLE, 1, Standing(phase, 0, Space()), False).phase, (phase + 1) % 3)
        self.assert_raised(BadSpace("standing"), step, three, SINGLE, 1, Standing(3, 0, Space()), False)
        for delay in range(9):
            standing = Standing(0, 0, Space(2 ** (delay + 1)))
            self.assert_raised(BadSpace("standing"), step, three, SINGLE, delay, standing, 1)

    def test_standing_behind(self):
        self.assert_refused(standing_behind, {**RIGHT, "losses": ".x"}, [*SETTING, ("losses", NO_LOSSES, BadLosses)])

    def test_reached_and_least(self):
        for call in (reached, least):
            self.assert_refused(call, {**RIGHT, "limit": 1}, [*SETTING, ("limit", NO_LIMITS, BadCount)])
            self.assert_refused(call, RIGHT, SETTING)
            for limit in (2, 4999, 5000):
                self.assertEqual(len(call(COPY, SINGLE, 1, limit)), 2)


if __name__ == "__main__":
    unittest.main()
