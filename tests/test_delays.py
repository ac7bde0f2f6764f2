"""Worst delays and fewest losses, as the test's own searches find them, and what shows them."""

import unittest
from itertools import product

from laterepair.delays import Delay, Fewest, fewest_losses, worst_delay, worst_delays
from laterepair.errors import BadCount, BadDelay, BadPlan, BadRule, NoPhase, TooMany
from laterepair.judged import judge
from laterepair.look_delays import shows_delay, shows_fewest
from laterepair.look_judged import shows_judged
from laterepair.plans import Plan, Tick, copies, parity
from laterepair.rules import Burst, Machine, Total, Window
from laterepair.spaces import Space
from laterepair.standings import Standing
from tests.helpers import ANY, NO_DELAYS, NO_LIMITS, NO_PLANS, NO_RULES, Errors, texts_up_to
from tests.worlds import closed_by_hand, first_state, is_late, known_sums, least_states, parts_of, search
from tests.worlds import singles_and_double, sorted_parts, state_after, state_of, states_along

PLANS = [
    Plan.read(text) for text in (
        "0", "-", "0 , 1", "0 , 1 2", "0 , 3", "1", "0 1 , 1 2", "0 / mute 1", "mute 2 / 0 , 1", "0 / 0 / mute 1 2",
        "0 , 1 / - / 0 , 2 3", "0 , 1 / mute 1 3 / 0 , 5", "0 / 0 , 6", "0 2 / 0 1 , 3 / mute -",
    )
]
RULES = [
    Total(0), Total(1), Total(2), Burst(1, 1), Burst(2, 2), Window(1, 3), Window(2, 4), Machine((0, 0)),
    Machine((0, 1), (0, 2), (0, None)), Machine((1, None), (0, 0)),
]
COPY, ONE = copies(1), Burst(1, 1)
RIGHT = {"plan": Plan.read("0 , 1 / mute 1 2 / 0"), "rule": ONE}
PLAN_RULE = [("plan", NO_PLANS, lambda value: BadPlan("plan")), ("rule", NO_RULES, lambda value: BadRule("rule"))]
NO_PHASES = [value for value in ANY if type(value) is not int] + [-1, 3, 6, 10 ** 39, 1]


def speaking(plan):
    return [phase for phase, tick in enumerate(plan) if not tick.mute]


def wide_states(plan, rule, age):
    """All wide states that are reached for this delay, and for each number of ticks whether a row can be unknown."""
    return search([plan], rule, max(age, plan.ages))[0]


def has_delay(plan, rule, phase, age):
    then = (phase + age + 1) % len(plan)
    return not any(state[0] == then and is_late(state, age) for state in wide_states(plan, rule, age))


def fewest_ticks(plan, rule, phase, age):
    """How many ticks losses have at least behind which a row of this phase is not known at this age."""
    then = (phase + age + 1) % len(plan)
    return search([plan], rule, max(age, plan.ages), lambda state: state[0] == then and is_late(state, age))[1]


class TestWorstDelay(Errors, unittest.TestCase):

    def test_by_wide_standings(self):
        seen = set()
        for (at, plan), (nth, rule) in product(enumerate(PLANS), enumerate(RULES)):
            most = (at * 3 + nth) % 9 if (at + nth) % 3 else 8
            for phase in speaking(plan):
                told = worst_delay(plan, rule, phase, most)
                self.assertIs(type(told), Delay)
                numbers = [age for age in range(min(most, 6) + 1) if has_delay(plan, rule, phase, age)]
                if numbers:
                    self.assertEqual(told.number, numbers[0])
                    states = wide_states(plan, rule, told.number)
                    self.assertIsInstance(told.table, tuple)
                    self.assertEqual(parts_of(told.table), sorted_parts(least_states(states)))
                elif most <= 6:
                    self.assertIsNone(told.number)
                seen.add(told.number)
                self.assert_losses(plan, rule, phase, most, told)
                self.assertIs(shows_delay(plan, rule, phase, most, told), True)
        self.assertLessEqual({None, 0, 1, 2, 3, 5}, seen)

    def assert_losses(self, plan, rule, phase, most, told):
        if told.number == 0:
            self.assertIsNone(told.losses)
            return
        if told.number is None:
            self.assertEqual(told.table, ())
        age = most if told.number is None else told.number - 1
        self.assertEqual(len(told.losses), fewest_ticks(plan, rule, phase, age))
        self.assertIn(told.losses, rule)
        made_at = len(told.losses) - 1 - age
        self.assertEqual(made_at % len(plan), phase)
        if len(told.losses) < 9:
            self.assertNotIn(2 ** age, known_sums(plan, told.losses, age, False))

    def test_against_the_definition_alone(self):
        for plan, rule in product(PLANS, RULES[1:]):
            for phase in speaking(plan):
                told = worst_delay(plan, rule, phase, 3)
                for age in range(4):
                    late = [text for text in texts_up_to(6) if text in rule and len(text) > age
                            and (len(text) - 1 - age) % len(plan) == phase
                            and 2 ** age not in known_sums(plan, text, age, False)]
                    if told.number is not None and age >= told.number:
                        self.assertEqual(late, [])
                    elif age == (3 if told.number is None else told.number - 1) and (late or len(told.losses) <= 6):
                        self.assertEqual(len(told.losses), len(late[0]))

    def test_spaces_are_those_that_can_be_known(self):
        for plan, delay in product(PLANS, (0, 2, 4)):
            top = max(plan.ages, delay)
            for text in texts_up_to(5)[::3]:
                wanted = known_sums(plan, text, top, False)
                self.assertEqual(states_along([plan], RULES[7], top, text)[-1][2][0], wanted)

    def test_worst_delays(self):
        for (at, plan), rule in product(enumerate(PLANS), RULES):
            most = at % 9
            wanted = ["mute" if tick.mute else worst_delay(plan, rule, phase, most).number
                      for phase, tick in enumerate(plan)]
            self.assertEqual(worst_delays(plan, rule, most), tuple(wanted))
            self.assertIsInstance(worst_delays(plan, rule), tuple)
        self.assertEqual(worst_delays(Plan.read("mute 1 / mute -"), Total(0), 8, 1), ("mute", "mute"))

    def test_the_greatest_one_is_the_least_in_time(self):
        for plan, rule in product(PLANS, RULES):
            numbers = [number for number in worst_delays(plan, rule) if number != "mute"]
            in_time = [delay for delay in range(9) if judge(plan, rule, delay)]
            if None in numbers:
                self.assertEqual(in_time, [])
            else:
                self.assertEqual(in_time[0], max(numbers))

    def test_closed_forms(self):
        for size in range(1, 6):
            wanted = tuple(size - phase for phase in range(size)) + ("mute",)
            self.assertEqual(worst_delays(parity(size), Total(1)), wanted)
            self.assertEqual(worst_delays(parity(size), Total(0)), (0,) * size + ("mute",))
            self.assertEqual(worst_delays(parity(size), Total(2)), (None,) * size + ("mute",))
        for age in range(1, 9):
            self.assertEqual(worst_delays(copies(age), ONE & Total(1)), (age,))
            self.assertEqual(worst_delay(copies(age), Total(1), 0, age - 1).number, None)
            self.assertEqual(worst_delay(copies(age), Total(1), 0, age - 1).losses, "x" + "." * (age - 1))

    def test_limits(self):
        many = 0
        for plan, rule in product(PLANS, RULES):
            for phase in speaking(plan)[:1]:
                told = worst_delay(plan, rule, phase)
                last = 6 if told.number is None else told.number
                sizes = [len(wide_states(plan, rule, age)) for age in range(min(last, 6) + 1)]
                if told.number is None:
                    self.assertEqual(worst_delay(plan, rule, phase, 6, max(sizes)).number, None)
                else:
                    self.assertEqual(worst_delay(plan, rule, phase, limit=max(sizes), most=8), told)
                for limit in {max(sizes) - 1, sizes[0] - 1} - {0}:
                    many += 1
                    self.assert_raised(TooMany("standings", limit), worst_delay, plan, rule, phase, 6, limit)
                    self.assert_raised(TooMany("standings", limit), worst_delays, plan, rule, 6, limit=limit)
        self.assertGreater(many, 50)

    def test_a_limit_of_a_delay_that_is_not_looked_at(self):
        plan = Plan.read("0 / 0 , 1")
        sizes = [len(wide_states(plan, ONE, age)) for age in range(9)]
        self.assertEqual(sizes, sorted(sizes))
        self.assertGreater(sizes[2], sizes[1])
        self.assertEqual(worst_delay(plan, ONE, 0, 8, sizes[1]).number, 1)
        self.assertEqual(worst_delays(plan, ONE, 1, sizes[1]), (1, None))
        for most in range(2, 9):
            self.assert_raised(TooMany("standings", sizes[1]), worst_delay, plan, ONE, 1, most, sizes[1])
            self.assert_raised(TooMany("standings", sizes[1]), worst_delays, plan, ONE, most, sizes[1])
            self.assert_raised(TooMany("standings", sizes[most] - 1), worst_delays, plan, ONE, most, sizes[most] - 1)
            self.assertEqual(worst_delays(plan, ONE, most, sizes[most]), (1, None))

    def test_the_default_limit(self):
        plan = Plan.read("3 4 5 , 0 5 8")
        told = worst_delay(plan, RULES[7], 0, 8, 3361)
        self.assertEqual((told.number, told.table, len(told.losses)), (None, (), 9))
        self.assert_raised(TooMany("standings", 3360), worst_delay, plan, RULES[7], 0, 8, 3360)
        self.assert_raised(TooMany("standings", 2000), worst_delay, plan, RULES[7], 0)
        self.assert_raised(TooMany("standings", 2000), worst_delays, plan, RULES[7])

    def test_errors(self):
        phases = [("phase", NO_PHASES, NoPhase)]
        ends = [("most", NO_DELAYS, BadDelay), ("limit", NO_LIMITS, BadCount)]
        right = {**RIGHT, "phase": 0, "most": 8, "limit": 2000}
        self.assert_refused(worst_delay, right, PLAN_RULE + phases + ends)
        self.assert_refused(worst_delay, {**RIGHT, "phase": 2}, PLAN_RULE + phases)
        self.assert_refused(worst_delays, {**RIGHT, "most": 8, "limit": 2000}, PLAN_RULE + ends)
        self.assert_refused(worst_delays, RIGHT, PLAN_RULE)
        looked = {**RIGHT, "phase": 0, "most": 8, "value": worst_delay(RIGHT["plan"], ONE, 0)}
        self.assert_refused(shows_delay, looked, PLAN_RULE + phases + ends[:1])
        for value in ANY:
            self.assert_raised(BadDelay(9), shows_delay, RIGHT["plan"], ONE, 0, 9, value)
        mute = Plan.read("mute 1 / mute -")
        for call in (worst_delay, lambda plan, rule, phase: shows_delay(plan, rule, phase, 8, None)):
            for phase in range(3):
                self.assert_raised(NoPhase(phase), call, mute, ONE, phase)


def fewest_by_hand(plan, delay, rule):
    """The least number of lost packets that make a row late, None if there is none, by its own count of them."""
    ways = rule or Machine((0, 0))
    levels = [{first_state([plan], delay)}]
    known = set(levels[0])
    while levels[-1]:
        # All that is reached by just so many lost packets, then one more.
        waiting = list(levels[-1])
        level = set(waiting)
        while waiting:
            state = waiting.pop()
            if is_late(state, delay):
                return len(levels) - 1
            after = state_after([plan], ways, delay, state, False)
            if after not in known:
                known.add(after)
                level.add(after)
                waiting.append(after)
        after = {state_after([plan], ways, delay, state, True) for state in level} - {None} - known
        known |= after
        levels.append(after)
    return None


class TestFewestLosses(Errors, unittest.TestCase):

    def assert_fewest(self, plan, delay, rule):
        told = fewest_losses(plan, delay, rule)
        self.assertIs(type(told), Fewest)
        number = fewest_by_hand(plan, delay, rule)
        self.assertEqual(told.number, number)
        self.assertIs(type(told.number), type(number))
        if number is None:
            self.assertIsNone(told.losses)
            self.assertEqual(told.table, judge(plan, Total(0) if rule is None else rule, delay).table)
        else:
            self.assertEqual(told.losses.count("x"), number)
            self.assertTrue(rule is None or told.losses in rule)
            states = states_along([plan], Total(12) if rule is None else rule, delay, told.losses)
            self.assertTrue(any(is_late(state, delay) for state in states))
        if number == 0:
            self.assertIsNone(told.table)
        elif number is not None:
            both = Total(number - 1) if rule is None else rule & Total(number - 1)
            self.assertEqual(told.table, judge(plan, both, delay).table)
        self.assertIs(shows_fewest(plan, delay, rule, told), True)
        return number

    def test_with_rules(self):
        seen = set()
        for (at, plan), (nth, rule) in product(enumerate(PLANS), enumerate(RULES)):
            seen.add(self.assert_fewest(plan, (at + 2 * nth) % 5, rule))
        self.assertLessEqual({None, 0, 1, 2}, seen)

    def test_without_a_rule(self):
        for plan, delay in product(PLANS, range(4)):
            number = self.assert_fewest(plan, delay, None)
            self.assertLessEqual(number, delay + 1)
            self.assertEqual(fewest_losses(plan, delay), fewest_losses(delay=delay, plan=plan, limit=5000))
        for delay in range(9):
            self.assertEqual(fewest_losses(Plan.read("0 , 1 , 2 , 3 , 4 , 5"), delay).number, min(delay, 5) + 1)

    def test_plans_of_mute_ticks_alone(self):
        for text in ("mute -", "mute 1 / mute 2", "mute 8 / mute - / mute 1 2"):
            plan = Plan.read(text)
            for delay in (0, 3, 8):
                self.assertEqual(fewest_losses(plan, delay), Fewest(None, None, judge(plan, Total(0), delay).table))
                self.assertEqual(fewest_losses(plan, delay, None, len(plan)).number, None)
                self.assertIs(shows_fewest(plan, delay, None, fewest_losses(plan, delay)), True)
                for rule in RULES:
                    self.assertEqual(self.assert_fewest(plan, delay, rule), None)
        self.assert_raised(TooMany("standings", 1), fewest_losses, Plan.read("mute 1 / mute 2"), 0, None, 1)

    def test_many_losses(self):
        for many in range(9, 13):
            rule = singles_and_double(many)
            self.assertFalse(judge(COPY, rule, 1))
            if many <= 10:
                told = fewest_losses(COPY, 1, rule)
                self.assertEqual(told.number, many + 2)
                self.assertEqual(told.losses.count("x"), many + 2)
                self.assertIn(told.losses, rule)
                self.assertIs(shows_fewest(COPY, 1, rule, told), True)
            else:
                self.assert_raised(TooMany("losses", 12), fewest_losses, COPY, 1, rule)
                losses = "x." * many + "xx"
                self.assertIn(losses, rule)
                for number in (many + 2, 13, 14, 12, 10 ** 39):
                    table = judge(COPY, rule & Total(12), 1).table
                    self.assertIs(shows_fewest(COPY, 1, rule, Fewest(number, losses, table)), False)

    def test_limits(self):
        for plan, rule in product(PLANS[2:10], RULES[1:7]):
            delay = 2
            sizes = []
            states, ticks = search([plan], rule, delay, lambda state: is_late(state, delay))
            sizes.append(len(states))
            number = 0
            while ticks is not None:
                states, late = search([plan], rule & Total(number), delay, lambda state: is_late(state, delay))
                sizes.append(len(states))
                if late is not None:
                    break
                number += 1
            told = fewest_losses(plan, delay, rule, max(sizes))
            self.assertEqual(told.number, None if ticks is None else number)
            for limit in {max(sizes) - 1, 1} - {0, max(sizes)}:
                self.assert_raised(TooMany("standings", limit), fewest_losses, plan, delay, rule, limit)

    def test_rules_with_too_many_places(self):
        cycle = Machine((1, 1), *[(at + 1, None) for at in range(1, 39)], (0, 0))
        self.assertEqual(cycle.places, 40)
        self.assertFalse(judge(COPY, cycle, 1))
        self.assert_raised(TooMany("places", 40), lambda: cycle & Total(1))
        self.assert_raised(TooMany("places", 40), fewest_losses, COPY, 1, cycle)
        losses = "." * 39 + "xx"
        self.assertIn(losses, cycle)
        for table in (None, (), judge(COPY, Total(1), 1).table):
            self.assert_raised(TooMany("places", 40), shows_fewest, COPY, 1, cycle, Fewest(2, losses, table))
            self.assertIs(shows_fewest(COPY, 1, cycle, Fewest(2, losses[:-1], table)), False)
            self.assertIs(shows_fewest(COPY, 1, cycle, Fewest(3, losses, table)), False)
            self.assertIs(shows_fewest(COPY, 1, cycle, Fewest(1, losses, table)), False)
            self.assertIs(shows_fewest(COPY, 1, cycle, Fewest(0, losses, table)), False)

    def test_errors(self):
        no_rules = [value for value in NO_RULES if value is not None]
        wrongs = [PLAN_RULE[0], ("delay", NO_DELAYS, BadDelay), ("rule", no_rules, PLAN_RULE[1][2])]
        limits = [("limit", NO_LIMITS, BadCount)]
        for rule in (ONE, None):
            right = {"plan": COPY, "delay": 1, "rule": rule}
            self.assert_refused(fewest_losses, {**right, "limit": 2000}, wrongs + limits)
            self.assert_refused(fewest_losses, right, wrongs)
            for value in (None, Fewest(0, "", None), Fewest(None, None, ())):
                self.assert_refused(shows_fewest, {**right, "value": value}, wrongs)


def changed_tables(plan, top, table):
    """Tables near this one: a standing left out, doubled, put in or changed, or another order."""
    yield table[::-1]
    yield table + table
    yield ()
    for at, one in enumerate(table):
        yield table[:at] + table[at + 1:]
        yield table[:at] + (one, one) + table[at + 1:]
        yield table + (Standing(one.phase, one.place, Space()),)
        for row in one.space.rows:
            fewer = [rest for rest in one.space.rows if rest != row]
            yield table[:at] + (Standing(one.phase, one.place, Space(*fewer)),) + table[at + 1:]
        for phase, place, space in ((one.phase + 1, one.place, one.space), (one.phase - 1, one.place, one.space),
                                    (one.phase, one.place + 1, one.space), (one.phase, one.place - 1, one.space),
                                    (one.phase, one.place, one.space + Space(1)), (one.phase, one.place, Space()),
                                    (one.phase, one.place, one.space + Space(2 ** top)),
                                    (one.phase, one.place, one.space + Space(2 ** (top + 1)))):
            yield table[:at] + (Standing(phase, place, space),) + table[at + 1:]
            yield table + (Standing(phase, place, space),)


def closed_table(plan, rule, top, table):
    """Whether this is a closed table of Standings of integers and Spaces with ages up to top."""
    for one in table:
        if not (0 <= one.phase < len(plan) and 0 <= one.place < rule.places):
            return False
        if any(row >= 2 ** (top + 1) for row in one.space.rows):
            return False
    return closed_by_hand([plan], rule, top, [state_of(one) for one in table])


def changed_texts(losses):
    yield losses
    yield losses + "."
    yield "." + losses
    yield losses + "y"
    yield ""
    for at in range(len(losses)):
        yield losses[:at]
        yield losses[:at] + losses[at + 1:]
        for letter in ".xy":
            yield losses[:at] + letter + losses[at + 1:]
            yield losses[:at] + letter + losses[at:]


def missing_by_hand(plan, rule, phase, age, losses):
    """Whether behind these losses a row of this phase is not known at this age, tick 0 or later."""
    made_at = len(losses) - 1 - age
    if losses.strip(".x") or losses not in rule or made_at < 0 or made_at % len(plan) != phase:
        return False
    return is_late(states_along([plan], rule, max(age, plan.ages), losses)[-1], age)


class TestShownDelay(Errors, unittest.TestCase):

    def settings(self):
        for (at, plan), (nth, rule) in product(enumerate(PLANS), enumerate(RULES)):
            phases = speaking(plan)
            phase, most = phases[(at + nth) % len(phases)], (8, 3, 1, 0)[(at + 2 * nth) % 4]
            yield plan, rule, phase, most, worst_delay(plan, rule, phase, most)

    def test_tables_near_the_right_one(self):
        many = {True: 0, False: 0}
        for plan, rule, phase, most, told in self.settings():
            if told.number is None or len(told.table) > 8:
                continue
            top = max(told.number, plan.ages)
            for table in changed_tables(plan, top, told.table):
                then = (phase + told.number + 1) % len(plan)
                wanted = closed_table(plan, rule, top, table) and all(
                    one.space.tells(told.number) for one in table if one.phase == then)
                shown = shows_delay(plan, rule, phase, most, Delay(told.number, table, told.losses))
                self.assertIs(shown, wanted, (plan, rule, table))
                many[wanted] += 1
        self.assertGreater(min(many.values()), 300)

    def test_losses_near_the_right_ones(self):
        many = {True: 0, False: 0}
        for plan, rule, phase, most, told in self.settings():
            if told.losses is None:
                continue
            age = most if told.number is None else told.number - 1
            for losses in changed_texts(told.losses):
                wanted = missing_by_hand(plan, rule, phase, age, losses)
                shown = shows_delay(plan, rule, phase, most, Delay(told.number, told.table, losses))
                self.assertIs(shown, wanted, (losses, told.losses))
                many[wanted] += 1
        self.assertGreater(min(many.values()), 200)

    def test_other_numbers(self):
        for plan, rule, phase, most, told in self.settings():
            for number in [-1, 9, 10 ** 39, most + 1, *range(9), *[value for value in ANY if type(value) is not int]]:
                if number is True or number is False or number != told.number:
                    paper = Delay(number, told.table, told.losses)
                    self.assertIs(shows_delay(plan, rule, phase, most, paper), False, (number, told.number))
            self.assertIs(shows_delay(plan, rule, phase, most, told), True)

    def test_beyond_most(self):
        told = worst_delay(copies(3), Total(1), 0)
        self.assertEqual(told.number, 3)
        for most in range(9):
            self.assertIs(shows_delay(copies(3), Total(1), 0, most, told), most >= 3)
        for most in range(3):
            none = worst_delay(copies(3), Total(1), 0, most)
            self.assertIsNone(none.number)
            for other in range(9):
                self.assertIs(shows_delay(copies(3), Total(1), 0, other, none), other == most)

    def test_other_kinds(self):
        for plan, rule, phase, most, told in self.settings():
            whole = Standing(0, 0, Space.whole(max(most, plan.ages) + 1))
            for table in [*ANY, list(told.table), {0: told.table}, *[(whole,) for _ in range(told.number is None)]]:
                if table != told.table:
                    paper = Delay(told.number, table, told.losses)
                    self.assertIs(shows_delay(plan, rule, phase, most, paper), False)
            for value in [*ANY, list(told.losses or "x")]:
                if value == told.losses or isinstance(value, str):
                    continue
                self.assertIs(shows_delay(plan, rule, phase, most, Delay(told.number, told.table, value)), False)
            for value in ANY:
                if not isinstance(value, Delay):
                    self.assertIs(shows_delay(plan, rule, phase, most, value), False)
                if told.number is not None:
                    for one in (value, Standing(value, 0, Space()), Standing(0, value, Space()), Standing(0, 0, value)):
                        if isinstance(one, Standing) and isinstance(one.space, Space) and type(one.place) is int:
                            continue
                        paper = Delay(told.number, told.table + (one,), told.losses)
                        self.assertIs(shows_delay(plan, rule, phase, most, paper), False, one)

    def test_losses_with_the_number_0(self):
        told = worst_delay(Plan.read("0"), Total(0), 0)
        self.assertEqual((told.number, told.losses), (0, None))
        for losses in ("", ".", "x", False, 0, (), []):
            self.assertIs(shows_delay(Plan.read("0"), Total(0), 0, 8, Delay(0, told.table, losses)), False)

    def test_lengths(self):
        told = worst_delay(COPY, ONE, 0)
        self.assertEqual(told.losses, "x")
        for ticks, wanted in ((4998, True), (4999, True), (5000, False), (100000, False)):
            paper = Delay(1, told.table, "." * ticks + "x")
            self.assertIs(shows_delay(COPY, ONE, 0, 8, paper), wanted)
        for many, wanted in ((2499, True), (2500, True), (50000, False)):
            self.assertIs(shows_delay(COPY, ONE, 0, 8, Delay(1, told.table * many, "x")), wanted)
        self.assertIs(shows_delay(COPY, ONE, 0, 8, Delay(1, told.table * 2500 + told.table[1:], "x")), False)
        none = worst_delay(Plan.read("-"), Total(0), 0)
        self.assertEqual(none, Delay(None, (), "." * 9))
        self.assertIs(shows_delay(Plan.read("-"), Total(0), 0, 8, Delay(None, (), "." * 5000)), True)
        self.assertIs(shows_delay(Plan.read("-"), Total(0), 0, 8, Delay(None, (), "." * 5001)), False)
        self.assertIs(shows_delay(Plan.read("-"), Total(0), 0, 8, Delay(None, (), "." * 8)), False)


class TestShownFewest(Errors, unittest.TestCase):

    def settings(self):
        for (at, plan), (nth, rule) in product(enumerate(PLANS), enumerate([*RULES, None, None])):
            delay = (at + nth) % 4
            yield plan, delay, rule, fewest_losses(plan, delay, rule)

    def test_tables_near_the_right_one(self):
        many = {True: 0, False: 0}
        for plan, delay, rule, told in self.settings():
            if told.number == 0 or len(told.table) > 8:
                continue
            both = rule if told.number is None else Total(told.number - 1)
            if rule is not None and told.number is not None:
                both = rule & both
            for table in changed_tables(plan, delay, told.table):
                wanted = closed_table(plan, both, delay, table) and all(one.space.tells(delay) for one in table)
                shown = shows_fewest(plan, delay, rule, Fewest(told.number, told.losses, table))
                self.assertIs(shown, wanted)
                many[wanted] += 1
        self.assertGreater(min(many.values()), 200)

    def test_losses_near_the_right_ones(self):
        many = {True: 0, False: 0}
        for plan, delay, rule, told in self.settings():
            if told.number is None:
                continue
            for losses in changed_texts(told.losses):
                wanted = losses.strip(".x") == "" and (rule is None or losses in rule)
                if wanted:
                    states = states_along([plan], rule or Total(12), delay, losses)
                    wanted = losses.count("x") == told.number and any(is_late(state, delay) for state in states)
                shown = shows_fewest(plan, delay, rule, Fewest(told.number, losses, told.table))
                self.assertIs(shown, wanted, (losses, told.losses))
                many[wanted] += 1
        self.assertGreater(min(many.values()), 200)

    def test_other_numbers(self):
        for plan, delay, rule, told in self.settings():
            for number in [-1, 13, 10 ** 39, *range(13), *[value for value in ANY if type(value) is not int]]:
                if number is True or number is False or number != told.number:
                    paper = Fewest(number, told.losses, told.table)
                    self.assertIs(shows_fewest(plan, delay, rule, paper), False)

    def test_other_kinds(self):
        for plan, delay, rule, told in self.settings():
            for value in [*ANY, [], list(told.table or ())]:
                if value is None and told.table is None:
                    continue
                self.assertIs(shows_fewest(plan, delay, rule, Fewest(told.number, told.losses, value)), False)
            for value in [*ANY, list(told.losses or "x")]:
                if not isinstance(value, str) and not (value is None and told.losses is None):
                    self.assertIs(shows_fewest(plan, delay, rule, Fewest(told.number, value, told.table)), False)
            for value in ANY:
                if not isinstance(value, Fewest):
                    self.assertIs(shows_fewest(plan, delay, rule, value), False)

    def test_the_number_none(self):
        told = judge(COPY, ONE, 1)
        self.assertIs(shows_fewest(COPY, 1, ONE, Fewest(None, None, told.table[::-1] * 3)), True)
        self.assertIs(shows_fewest(COPY, 1, None, Fewest(None, None, told.table)), False)
        self.assertIs(shows_fewest(COPY, 1, None, Fewest(None, None, judge(COPY, Total(0), 1).table)), False)
        self.assertIs(shows_fewest(COPY, 1, ONE, Fewest(None, "", told.table)), False)
        self.assertIs(shows_fewest(COPY, 1, ONE, Fewest(None, None, None)), False)
        mute = Plan.read("mute 1 / mute -")
        table = judge(mute, Total(0), 4).table
        self.assertIs(shows_fewest(mute, 4, None, Fewest(None, None, table)), True)
        self.assertIs(shows_fewest(mute, 4, None, Fewest(None, None, table[:1])), False)
        self.assertIs(shows_fewest(mute, 4, None, Fewest(None, None, judge(mute, Total(1), 4).table)), False)
        self.assertIs(shows_fewest(mute, 4, Total(1), Fewest(None, None, judge(mute, Total(1), 4).table)), True)

    def test_the_number_0(self):
        plan = Plan.read("- / 0")
        told = fewest_losses(plan, 2)
        self.assertEqual(told, Fewest(0, "...", None))
        for table in ((), judge(COPY, Total(0), 1).table, False, 0):
            self.assertIs(shows_fewest(plan, 2, None, Fewest(0, "...", table)), False)
        self.assertIs(shows_fewest(plan, 2, None, Fewest(0, "....", None)), True)
        self.assertIs(shows_fewest(plan, 2, None, Fewest(0, "..", None)), False)
        self.assertIs(shows_fewest(plan, 2, None, Fewest(0, "..x", None)), False)

    def test_lengths(self):
        told = fewest_losses(COPY, 1)
        self.assertEqual((told.number, told.losses), (2, "xx"))
        for front, back, wanted in ((4998, 0, True), (0, 4998, True), (4999, 0, False), (0, 4999, False), (9, 99999, False)):
            paper = Fewest(2, "." * front + "xx" + "." * back, told.table)
            self.assertIs(shows_fewest(COPY, 1, None, paper), wanted)
        many = 5000 // len(told.table)
        self.assertIs(shows_fewest(COPY, 1, None, Fewest(2, "xx", told.table * many)), True)
        self.assertIs(shows_fewest(COPY, 1, None, Fewest(2, "xx", told.table * (many + 1))), False)
        self.assertIs(shows_fewest(COPY, 1, None, Fewest(2, "x.xx", told.table)), False)
        self.assertIs(shows_fewest(COPY, 1, None, Fewest(2, "x.x", told.table)), False)
        self.assertIs(shows_fewest(COPY, 1, None, Fewest(3, "x.xx", judge(COPY, Total(1), 1).table)), False)

    def test_tables_are_those_of_judge(self):
        for plan, delay, rule, told in self.settings():
            if told.number is not None and told.number > 0:
                both = Total(told.number - 1) if rule is None else rule & Total(told.number - 1)
                self.assertIs(shows_judged(plan, both, delay, judge(plan, both, delay)), True)
                self.assertEqual(judge(plan, both, delay).table, told.table)


if __name__ == "__main__":
    unittest.main()
