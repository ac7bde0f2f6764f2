"""Two plans played with equal losses: which one is better, and what shows it."""

import random
import unittest
from itertools import product
from math import lcm

from laterepair.compared import AtLeast, Pair, Parted, compare, order
from laterepair.errors import BadCount, BadDelay, BadPlan, BadRule, TooMany
from laterepair.judged import judge
from laterepair.look_compared import shows_compared
from laterepair.plans import Plan, copies, parity
from laterepair.rules import Burst, Machine, Total, Window
from laterepair.spaces import Space
from tests.helpers import ANY, NO_DELAYS, NO_LIMITS, NO_PLANS, NO_RULES, Errors, texts_up_to
from tests.worlds import closed_by_hand, is_parted, known_sums, least_states, pair_state, search, sorted_parts
from tests.worlds import states_along

LOUD = [Plan.read(text) for text in (
    "0", "-", "0 , 1", "0 , 1 2", "0 , 2", "1", "0 1 , 1 2", "0 / 0 , 1 2", "0 , 1 / 0 / 0 , 3", "0 / 0 , 1 2 3 / - / 0",
)]
HALF = [Plan.read(text) for text in (
    "0 / mute 1", "0 / mute -", "0 , 2 / mute 1", "0 1 / mute 1 3", "0 / mute 1 / 0 , 2 / mute 3", "- / mute 1",
)]
PAIRS = [*product(LOUD, repeat=2), *product(HALF, repeat=2), (parity(2), Plan.read("0 , 1 / 0 / mute -"))]
RULES = [
    Total(0), Total(1), Total(2), Burst(1, 1), Burst(2, 2), Window(1, 3), Machine((0, 0)),
    Machine((0, 1), (0, 2), (0, None)), Machine((1, None), (0, 0)), Burst(2, 1) & Total(2),
]
AGAIN, BOTH, TWO = copies(1), Plan.read("0 , 1 2"), Burst(2, 2)
RIGHT = {"one": AGAIN, "other": BOTH, "rule": TWO, "delay": 3}
WRONGS = [
    ("one", NO_PLANS, lambda value: BadPlan("one")), ("other", NO_PLANS, lambda value: BadPlan("other")),
    ("rule", NO_RULES, lambda value: BadRule("rule")), ("delay", NO_DELAYS, BadDelay),
]
UNLIKE = [parity(1), parity(4), Plan.read("0 / 0 / 0 / mute 1")]
MUTES = [[(name, UNLIKE, lambda value: BadPlan("mute")), *WRONGS[2:]] for name in ("one", "other")]


def settings(step=1):
    """Two plans, a rule and a delay, each of two plans with several rules and delays."""
    for at, (one, other) in list(enumerate(PAIRS))[::step]:
        for nth in range(at % 3, len(RULES), 3):
            yield one, other, RULES[nth], (at + nth) % 6
        yield one, other, RULES[at % len(RULES)], 6 + at % 3


FOUND = {}


def parted_search(one, other, rule, delay):
    """What search tells of two plans, each one once."""
    key = (str(one), str(other), rule.ways, delay)
    if key not in FOUND:
        FOUND[key] = search([one, other], rule, top_age(one, other, delay), lambda state: is_parted(state, delay))
    return FOUND[key]


def top_age(one, other, delay):
    return max(one.ages, other.ages, delay)


def parts_of(table):
    return [(pair.phase, pair.place, pair.first.rows, pair.second.rows) for pair in table]


class TestCompare(Errors, unittest.TestCase):

    def test_by_pairs_of_spaces(self):
        many = {True: 0, False: 0}
        for one, other, rule, delay in settings():
            states, ticks = parted_search(one, other, rule, delay)
            told = compare(one, other, rule, delay)
            many[bool(told)] += 1
            if ticks is None:
                self.assertIs(type(told), AtLeast)
                self.assertIsInstance(told.table, tuple)
                self.assertTrue(all(type(pair) is Pair for pair in told.table))
                self.assertEqual(parts_of(told.table), sorted_parts(least_states(states)))
            else:
                self.assertIs(type(told), Parted)
                self.assertEqual(len(told.losses), ticks)
                self.assertIn(told.losses, rule)
                last = states_along([one, other], rule, top_age(one, other, delay), told.losses)[-1]
                self.assertTrue(is_parted(last, delay))
            self.assertIs(shows_compared(one, other, rule, delay, told), True)
            self.assertEqual(told, compare(limit=len(states), delay=delay, rule=rule, other=other, one=one))
            for limit in {len(states) - 1, 1} - {0, len(states)}:
                self.assert_raised(TooMany("pairs", limit), compare, one, other, rule, delay, limit)
        self.assertGreater(min(many.values()), 100)

    def test_against_the_definition_alone(self):
        for one, other, rule, delay in list(settings())[::7]:
            told = compare(one, other, rule, delay)
            parting = [text for text in texts_up_to(6) if text in rule
                       and 2 ** delay in known_sums(other, text, delay, False)
                       and 2 ** delay not in known_sums(one, text, delay, False)]
            if parting:
                self.assertEqual(len(told.losses), len(parting[0]))
            elif not told:
                self.assertGreater(len(told.losses), 6)

    def test_phases_of_both_together(self):
        four, six = Plan(*[BOTH[0]] * 3, AGAIN[0]), Plan(*[AGAIN[0]] * 5, BOTH[0])
        told = compare(four, six, Total(0), 2)
        self.assertEqual([pair.phase for pair in told.table], list(range(12)))
        five = Plan(*[AGAIN[0]] * 4, BOTH[0])
        self.assertEqual([pair.phase for pair in compare(five, six, Total(0), 2).table], list(range(30)))

    def test_a_plan_beside_itself(self):
        for plan, rule, delay in product([*LOUD, *HALF, parity(3)], RULES, (0, 1, 4)):
            told = compare(plan, plan, rule, delay)
            self.assertTrue(told)
            self.assertTrue(all(pair.first == pair.second for pair in told.table))
            self.assertEqual(order(plan, plan, rule, delay), "alike")

    def test_order(self):
        words = {(True, True): "alike", (True, False): "better", (False, True): "worse", (False, False): "apart"}
        seen = set()
        for one, other, rule, delay in settings():
            sides = [parted_search(*plans, rule, delay)[1] is None for plans in ((one, other), (other, one))]
            self.assertEqual(order(one, other, rule, delay), words[tuple(sides)])
            self.assertEqual(order(delay=delay, rule=rule, other=other, one=one), words[tuple(sides)])
            seen.add(words[tuple(sides)])
        self.assertEqual(seen, set(words.values()))

    def test_limits_of_order(self):
        many = {"first": 0, "second": 0}
        for one, other, rule, delay in settings():
            sizes = [len(parted_search(*plans, rule, delay)[0]) for plans in ((one, other), (other, one))]
            self.assertIn(order(one, other, rule, delay, max(sizes)), ("alike", "better", "worse", "apart"))
            if max(sizes) > 1:
                many["first" if sizes[0] >= sizes[1] else "second"] += 1
                self.assert_raised(TooMany("pairs", max(sizes) - 1), order, one, other, rule, delay, max(sizes) - 1)
        self.assertGreater(min(many.values()), 10)

    def test_the_default_limit(self):
        one, other = Plan.read("3 4 5 , 0 5 8"), Plan.read("3 4 5")
        for call in (compare, order):
            self.assert_raised(TooMany("pairs", 2000), call, one, other, RULES[6], 8)
            self.assert_raised(TooMany("pairs", 3360), call, one, one, RULES[6], 8, 3360)
        self.assertEqual(order(one, one, RULES[6], 8, 3361), "alike")
        told = compare(one, one, RULES[6], 8, limit=5000)
        self.assertIs(shows_compared(one, one, RULES[6], 8, told), True)

    def test_more_sums_are_at_least_as_good(self):
        for plan, rule, delay in product([*LOUD[:8], *HALF], RULES[1:6], (0, 2, 5)):
            for phase, ages in ((0, (1, 3)), (len(plan) - 1, (2,)), (0, (4,))):
                if ages not in plan[phase]:
                    more = plan.with_phase(phase, plan[phase] + ages)
                    self.assertTrue(compare(more, plan, rule, delay))
                    self.assertIn(order(more, plan, rule, delay), ("better", "alike"))
                    self.assertIn(order(plan, more, rule, delay), ("worse", "alike"))

    def test_facts(self):
        for one, other, rule, delay in settings(2):
            if compare(one, other, rule, delay):
                for less in (Total(0), Total(1), Burst(1, 3)):
                    self.assertTrue(compare(one, other, rule & less, delay))
                if judge(other, rule, delay):
                    self.assertTrue(judge(one, rule, delay))

    def test_plans_that_are_the_same_for_ever(self):
        for plan in LOUD[:8] + HALF[:4]:
            doubled = Plan(*plan, *plan)
            self.assertEqual(order(plan, doubled, TWO, 2), "alike")
            table = compare(doubled, plan, TWO, 2).table
            self.assertEqual({pair.phase for pair in table}, set(range(len(doubled))))

    def test_errors(self):
        ends = [("limit", NO_LIMITS, BadCount)]
        for call in (compare, order):
            for wrongs in (WRONGS, *MUTES):
                self.assert_refused(call, {**RIGHT, "limit": 2000}, wrongs + ends)
                self.assert_refused(call, RIGHT, wrongs)
        for value in (None, AtLeast(()), Parted("x")):
            for wrongs in (WRONGS, *MUTES):
                self.assert_refused(shows_compared, {**RIGHT, "value": value}, wrongs)
        for call in (compare, order):
            for value in NO_PLANS:
                self.assert_raised(BadPlan("one"), call, value, value, value, value)
                self.assert_raised(BadPlan("other"), call, AGAIN, value, value, value)
            for one, other in ((AGAIN, parity(1)), (parity(1), parity(2)), (parity(1), parity(1) >> 1),
                               (Plan.read("0 / 0"), Plan.read("0 / 0 / 0 / 0 / mute -"))):
                for first, second in ((one, other), (other, one)):
                    self.assert_raised(BadPlan("mute"), call, first, second, None, 9, 0)


def closed_pairs(one, other, rule, delay, table):
    """Whether an AtLeast of a tuple of Pairs of integers and Spaces is right."""
    phases, top = lcm(len(one), len(other)), top_age(one, other, delay)
    for pair in table:
        if not (0 <= pair.phase < phases and 0 <= pair.place < rule.places):
            return False
        if any(row >= 2 ** (top + 1) for row in pair.first.rows + pair.second.rows):
            return False
        mute = one.tick_at(pair.phase - delay - 1 + 9 * phases).mute
        if pair.second.tells(delay) and not pair.first.tells(delay) and not mute:
            return False
    return closed_by_hand([one, other], rule, top, [pair_state(pair) for pair in table])


def changed_tables(top, table):
    """Tables near this one: a pair left out, doubled, put in or changed, or another order."""
    yield table[::-1]
    yield table + table
    yield ()
    for at, one in enumerate(table):
        yield table[:at] + table[at + 1:]
        yield table[:at] + (one, one) + table[at + 1:]
        parts = [one.phase, one.place, one.first, one.second]
        near = [(0, one.phase + 1), (0, one.phase - 1), (1, one.place + 1), (1, one.place - 1)]
        for side, space in ((2, one.first), (3, one.second)):
            near += [(side, space + Space(2 ** age)) for age in range(top + 2)]
            near += [(side, Space(*[row for row in space.rows if row != left])) for left in space.rows]
            near += [(side, Space())]
        for side, value in near:
            changed = parts[:side] + [value] + parts[side + 1:]
            yield table[:at] + (Pair(*changed),) + table[at + 1:]
            yield table + (Pair(*changed),)


def closed_kinds(value):
    """Whether this is a Pair of integers and Spaces."""
    if not isinstance(value, Pair) or not isinstance(value.first, Space) or not isinstance(value.second, Space):
        return False
    return type(value.phase) is int and type(value.place) is int


class TestShown(Errors, unittest.TestCase):

    def test_tables_near_the_right_one(self):
        many = {True: 0, False: 0}
        for one, other, rule, delay in list(settings())[::2]:
            told = compare(one, other, rule, delay)
            if not told or len(told.table) > 6 or top_age(one, other, delay) > 4:
                continue
            for table in changed_tables(top_age(one, other, delay), told.table):
                wanted = closed_pairs(one, other, rule, delay, table)
                self.assertIs(shows_compared(one, other, rule, delay, AtLeast(table)), wanted, parts_of(table))
                many[wanted] += 1
        self.assertGreater(min(many.values()), 300)

    def test_all_that_is_reached_is_a_table(self):
        chooser = random.Random(8)
        for one, other, rule, delay in list(settings())[::4]:
            states, ticks = parted_search(one, other, rule, delay)
            if ticks is None:
                pairs = [Pair(phase, place, Space(*first), Space(*second)) for phase, place, first, second
                         in sorted_parts(states)]
                chooser.shuffle(pairs)
                self.assertIs(shows_compared(one, other, rule, delay, AtLeast(tuple(pairs))), True)

    def test_rows_of_mute_ticks_may_be_parted(self):
        one, other = Plan.read("0 / mute -"), Plan.read("0 / mute -")
        delay, rule = 0, Total(0)
        table = compare(one, other, rule, delay).table
        first = Pair(0, 0, Space(), Space(1, 2))
        self.assertEqual([pair.phase for pair in table], [0, 1])
        wide = tuple(Pair(pair.phase, 0, Space(), Space.whole(1)) for pair in table)
        self.assertIs(shows_compared(one, other, rule, delay, AtLeast(wide)), False)
        self.assertIs(shows_compared(one, other, rule, delay, AtLeast((wide[0], table[1]))), True)
        self.assertIs(shows_compared(one, other, rule, delay, AtLeast((first, table[1]))), False)
        self.assertIs(shows_compared(one >> 1, other >> 1, rule, delay, AtLeast((wide[0], table[1]))), False)
        self.assertIs(shows_compared(one >> 1, other >> 1, rule, delay, AtLeast((table[0], wide[1]))), True)

    def test_rows_of_mute_ticks_of_all_ages(self):
        for text in ("0 / 0 / mute -", "0 / mute - / 0 / 0", "mute - / 0 / mute - / 0 / 0", "0 / mute -", "0"):
            plan = Plan.read(text)
            for delay in range(9):
                table = compare(plan, plan, Total(0), delay).table
                self.assertEqual(len(table), len(plan))
                for phase in range(len(plan)):
                    # The row of the greatest age is not known; it is left out by the next step.
                    pair = Pair(phase, 0, Space.whole(delay), Space.whole(delay + 1))
                    mutes = [tick.mute for tick in plan]
                    for _ in range(delay + 1):
                        mutes = mutes[-1:] + mutes[:-1]
                    paper = AtLeast(table + (pair,))
                    self.assertIs(shows_compared(plan, plan, Total(0), delay, paper), mutes[phase], (text, delay, phase))

    def test_other_kinds_in_tables(self):
        table = compare(BOTH, AGAIN, TWO, 3).table
        for value in [list(table), {0: table}, *ANY]:
            self.assertIs(shows_compared(BOTH, AGAIN, TWO, 3, AtLeast(value)), False)
        self.assertIs(shows_compared(BOTH, AGAIN, TWO, 3, table), False)
        self.assertIs(shows_compared(BOTH, AGAIN, TWO, 3, AtLeast(table)), True)
        whole = Space.whole(4)
        for value in ANY:
            if not isinstance(value, (AtLeast, Parted)):
                self.assertIs(shows_compared(BOTH, AGAIN, TWO, 3, value), False)
            wrong = [value, Pair(value, 0, whole, whole), Pair(0, value, whole, whole)]
            if not isinstance(value, Space):
                wrong += [Pair(0, 0, value, whole), Pair(0, 0, whole, value)]
            for pair in wrong:
                paper = AtLeast(table + (pair,))
                if not closed_kinds(pair):
                    self.assertIs(shows_compared(BOTH, AGAIN, TWO, 3, paper), False, value)
        for pair in (Pair(False, 0, whole, whole), Pair(0, False, whole, whole), Pair(0, True, whole, whole)):
            self.assertIs(shows_compared(BOTH, AGAIN, TWO, 3, AtLeast(table + (pair,))), False)

    def test_sizes(self):
        table = compare(AGAIN, AGAIN, Total(0), 0).table
        self.assertEqual(len(table), 1)
        for many, wanted in ((1, True), (5000, True), (5001, False), (200000, False)):
            self.assertIs(shows_compared(AGAIN, AGAIN, Total(0), 0, AtLeast(table * many)), wanted)
        for ticks, wanted in ((0, True), (4996, True), (4997, False), (99999, False)):
            paper = Parted("." * ticks + "xx..")
            self.assertIs(shows_compared(AGAIN, BOTH, TWO, 3, paper), wanted)

    def test_losses_near_the_right_ones(self):
        many = {True: 0, False: 0}
        for one, other, rule, delay in settings(2):
            told = compare(one, other, rule, delay)
            if told:
                continue
            top = top_age(one, other, delay)
            for losses in changed_texts(told.losses):
                wanted = losses.strip(".x") == "" and losses in rule and is_parted(
                    states_along([one, other], rule, top, losses)[-1], delay)
                self.assertIs(shows_compared(one, other, rule, delay, Parted(losses)), wanted, losses)
                many[wanted] += 1
            for value in [*ANY, list(told.losses)]:
                if not isinstance(value, str):
                    self.assertIs(shows_compared(one, other, rule, delay, Parted(value)), False)
        self.assertGreater(min(many.values()), 300)

    def test_papers_of_other_settings(self):
        rows = list(settings())
        for (one, other, rule, delay), from_where in zip(rows, rows[5:]):
            paper = compare(*from_where)
            if paper and (len(paper.table) > 6 or top_age(one, other, delay) > 4):
                continue
            if paper:
                wanted = closed_pairs(one, other, rule, delay, paper.table)
            else:
                wanted = paper.losses in rule and is_parted(
                    states_along([one, other], rule, top_age(one, other, delay), paper.losses)[-1], delay)
            self.assertIs(shows_compared(value=paper, delay=delay, rule=rule, other=other, one=one), wanted)


def changed_texts(losses):
    yield losses
    yield losses + "."
    yield "." + losses
    yield losses + "y"
    yield ""
    for at in range(len(losses)):
        yield losses[:at]
        yield losses[:at] + losses[at + 1:]
        for letter in ".xy":
            yield losses[:at] + letter + losses[at + 1:]
            yield losses[:at] + letter + losses[at:]


if __name__ == "__main__":
    unittest.main()
