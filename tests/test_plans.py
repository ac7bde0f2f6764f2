"""Ticks and plans: made, asked, changed into others, and refused."""

import unittest
from itertools import combinations, product
from math import lcm

from laterepair.errors import BadCount, BadPlan, BadTick, NoPhase, TooMany
from laterepair.plans import Plan, Tick, copies, parity
from laterepair.spaces import Space
from tests.helpers import ANY, NO_INTEGERS, Errors, all_sums

A, B, C, D = Tick((0,)), Tick((0,), (1,)), Tick(), Tick((0,), (1, 2))
M, N = Tick((1, 2), mute=True), Tick(mute=True)
SIX = [(0,), (1,), (2,), (3,), (4,), (5,)]
NO_SUMS = [
    *[value for value in ANY if not (isinstance(value, tuple) and value in ((0,), (0, 1)) and value[0] is not True)],
    (True,), (0, True), (False, 1), (9,), (-1,), (0, 9), (-1, 0), (1, 0), (0, 0), (0, 1, 1), (1, 2, 0), ("0",),
    (None,), ((0,),), (0, (1,)), (0, "1"), tuple(range(10)), (10 ** 39,), [0, 1], "01", {0: True}, range(2),
]
NO_NUMBERS = [-1, -(10 ** 39), *NO_INTEGERS]


class TestTicks(Errors, unittest.TestCase):

    def test_attributes_and_properties(self):
        for sums in ((), ((0,),), ((8,), (0, 1, 8)), ((1, 2), (1,), (0,)), (tuple(range(9)),), tuple(SIX)):
            tick = Tick(*sums)
            self.assertEqual(tick.sums, sums)
            self.assertIsInstance(tick.sums, tuple)
            self.assertIs(tick.mute, False)
            self.assertEqual(tick.masks, tuple(sum(2 ** age for age in ages) for ages in sums))
            self.assertIsInstance(tick.masks, tuple)
            self.assertEqual(tick.ages, max([age for ages in sums for age in ages], default=0))
            self.assertEqual(len(tick), len(sums))
            self.assertEqual(list(tick), list(sums))
            self.assertIs(bool(tick), bool(sums))
        self.assertEqual(D.masks, (1, 6))

    def test_mute(self):
        self.assertIs(Tick((1,), mute=True).mute, True)
        self.assertIs(Tick(mute=True).mute, True)
        self.assertIs(Tick((0,), mute=False).mute, False)
        self.assertEqual(Tick((8,), (1, 2), mute=True).ages, 8)

    def test_sums_of_a_tick(self):
        tick = Tick((0,), (1, 2), (1,))
        for ages in ((0,), (1, 2), (1,)):
            self.assertIs(ages in tick, True)
        for value in [(2,), (2, 1), (0, 1), *NO_SUMS, (True,), (1, 2.0)]:
            self.assertIs(value in tick, False, value)
            self.assertIs(value in Tick(), False, value)

    def test_equal(self):
        self.assertTrue(Tick((0,), (1,)) == Tick((0,), (1,)))
        self.assertFalse(Tick((0,), (1,)) != Tick((0,), (1,), mute=False))
        self.assertFalse(Tick((0,), (1,)) == Tick((1,), (0,)))
        self.assertFalse(Tick((1,)) == Tick((1,), mute=True))
        self.assertFalse(Tick((1,)) == Tick((1,), (2,)))
        for value in ANY:
            if not isinstance(value, Tick):
                self.assertFalse(Tick() == value)
                self.assertFalse(Tick((0,)) == value)

    def test_wrong_sums(self):
        for value in NO_SUMS:
            self.assert_raised(BadTick(0), Tick, value)
            self.assert_raised(BadTick(2), Tick, (0,), (1,), value, (2,))
            self.assert_raised(BadTick(1), Tick, (0,), value, value, mute=7)
            self.assert_raised(BadTick(6), Tick, *SIX, value, mute=None)

    def test_repeated_sums(self):
        self.assert_raised(BadTick(1), Tick, (0,), (0,))
        self.assert_raised(BadTick(2), Tick, (0,), (1, 2), (1, 2), "x")
        self.assert_raised(BadTick(6), Tick, *SIX, (3,))
        self.assert_raised(BadTick(7), Tick, *SIX, (6,), (6,), mute=True)

    def test_too_many_sums(self):
        self.assertEqual(len(Tick(*SIX)), 6)
        self.assert_raised(TooMany("sums", 6), Tick, *SIX, (6,))
        self.assert_raised(TooMany("sums", 6), Tick, *SIX, (6,), mute=1)
        self.assert_raised(TooMany("sums", 6), Tick, *SIX, (6,), mute=True)
        many = [ages for size in range(1, 10) for ages in combinations(range(9), size)]
        self.assert_raised(TooMany("sums", 6), Tick, *many)
        self.assert_raised(BadTick(len(many)), Tick, *many, (0,))

    def test_wrong_mute(self):
        for value in ANY:
            if not isinstance(value, bool):
                self.assert_raised(BadTick("mute"), Tick, mute=value)
                self.assert_raised(BadTick("mute"), Tick, (0,), mute=value)
        self.assert_raised(BadTick("mute"), Tick, (0,), mute=True)
        self.assert_raised(BadTick("mute"), Tick, (1,), (2, 3), (0, 8), mute=True)

    def test_put_behind(self):
        tick = Tick((0,))
        self.assertEqual(tick + (1, 2), Tick((0,), (1, 2)))
        self.assertEqual((N + (8,) + (1,)), Tick((8,), (1,), mute=True))
        self.assertEqual(tick, Tick((0,)))
        held = tick
        tick += (1,)
        self.assertEqual((tick, held), (Tick((0,), (1,)), Tick((0,))))

    def test_put_behind_refused(self):
        for value in NO_SUMS:
            self.assert_raised(BadTick(2), lambda: B + value)
        self.assert_raised(BadTick(2), lambda: B + (1,))
        self.assert_raised(BadTick(6), lambda: Tick(*SIX) + (5,))
        self.assert_raised(TooMany("sums", 6), lambda: Tick(*SIX) + (6,))
        self.assert_raised(BadTick("mute"), lambda: M + (0, 1))
        self.assertEqual((B, M), (Tick((0,), (1,)), Tick((1, 2), mute=True)))

    def test_left_out(self):
        tick = Tick((0,), (1, 2), (1,))
        self.assertEqual(tick - (1, 2), Tick((0,), (1,)))
        self.assertEqual(tick - (0,) - (1,) - (1, 2), Tick())
        self.assertEqual(M - (1, 2), Tick(mute=True))
        self.assertEqual(tick, Tick((0,), (1, 2), (1,)))
        held = tick
        tick -= (0,)
        self.assertEqual((len(tick), len(held)), (2, 3))
        for value in [*NO_SUMS, (0,), (2,), (True,), (1, 2, 3)]:
            self.assert_raised(BadTick("sum"), lambda: tick - value)
            self.assert_raised(BadTick("sum"), lambda: Tick() - value)

    def test_packed(self):
        tick = Tick((0,), (1, 2), (0, 1, 2), (8,))
        rows = {0: 5, 1: 6, 2: 3, 7: 99}
        self.assertEqual(tick.packed(rows), (5, 5, 0, 0))
        self.assertEqual(rows, {0: 5, 1: 6, 2: 3, 7: 99})
        self.assertEqual(tick.packed(rows={}), (0, 0, 0, 0))
        self.assertEqual(tick.packed({1: 10 ** 30}), (0, 10 ** 30, 10 ** 30, 0))
        self.assertEqual(Tick().packed(rows), ())


class TestPlans(Errors, unittest.TestCase):

    def test_ticks(self):
        for ticks in ((A,), (A, M), (C,), (N, N), (A, B, C, D, M, N)):
            plan = Plan(*ticks)
            self.assertEqual(len(plan), len(ticks))
            self.assertEqual(list(plan), list(ticks))
            self.assertEqual([plan[phase] for phase in range(len(ticks))], list(ticks))
            for number in [*range(40), 10 ** 39]:
                self.assertEqual(plan.tick_at(number), ticks[number % len(ticks)])
            self.assertEqual(plan.tick_at(number=len(ticks)), ticks[0])
            self.assertTrue(plan)

    def test_refused(self):
        for value in ANY:
            if not isinstance(value, Tick):
                self.assert_raised(BadPlan(0), Plan, value)
                self.assert_raised(BadPlan(1), Plan, A, value, B)
                self.assert_raised(BadPlan(6), Plan, A, A, A, A, A, A, value)
        self.assert_raised(BadPlan("ticks"), Plan)
        self.assert_raised(TooMany("phases", 6), Plan, A, A, A, A, A, A, A)
        self.assertEqual(len(Plan(A, A, A, A, A, A)), 6)

    def test_no_phase(self):
        plan = Plan(A, B)
        for value in [*NO_NUMBERS, 2, 10 ** 39, slice(0, 1), (0, 1)]:
            self.assert_raised(NoPhase(value), lambda: plan[value])
            self.assert_raised(NoPhase(value), plan.with_phase, value, None)
        for value in NO_NUMBERS:
            self.assert_raised(BadCount(value), plan.tick_at, value)
            self.assert_raised(BadCount(value), lambda: plan >> value)

    def test_ages_and_rate(self):
        self.assertEqual([Plan(A).ages, Plan(A, D).ages, Plan(C).ages, Plan(Tick((8,)), A).ages], [0, 2, 0, 8])
        self.assertEqual([Plan(A).rate, Plan(A, D).rate, Plan(C, N).rate, parity(5).rate, Plan(M, B, N).rate],
                         [(1, 1), (3, 2), (0, 1), (6, 5), (3, 1)])
        self.assertIsInstance(Plan(A).rate, tuple)

    def test_turned(self):
        plan = Plan(A, M, D)
        for number in [*range(12), 10 ** 20 + 1, 10 ** 39]:
            turned = plan >> number
            for tick in range(12):
                self.assertEqual(turned.tick_at(tick), plan.tick_at(tick + number))
            self.assertEqual(len(turned), 3)
        self.assertEqual(plan >> 0, plan)
        self.assertEqual(plan >> 1, Plan(M, D, A))
        self.assertEqual(plan, Plan(A, M, D))
        held = plan
        plan >>= 2
        self.assertEqual((plan, held), (Plan(D, A, M), Plan(A, M, D)))

    def test_joined(self):
        plans = [Plan(A), Plan(C), Plan(D), Plan(A, B), Plan(B, D), Plan(A, Tick((1, 2)), C)]
        for one, other in product(plans, repeat=2):
            joined = one | other
            self.assertEqual(len(joined), lcm(len(one), len(other)))
            for number in range(12):
                first, second = one.tick_at(number), other.tick_at(number)
                wanted = list(first) + [ages for ages in second if ages not in first]
                self.assertEqual(list(joined.tick_at(number)), wanted)
        self.assertEqual(Plan(A, M) | Plan(D, N), Plan(D, M))
        self.assertEqual(Plan(A, N) | Plan(D, M) | Plan(B, N), Plan(Tick((0,), (1, 2), (1,)), M))

    def test_joined_refused(self):
        for value in ANY:
            if not isinstance(value, Plan):
                self.assert_raised(BadPlan("other"), lambda: Plan(A) | value)
                self.assert_raised(BadPlan("other"), Plan(A).same_for_ever, value)
                self.assert_raised(BadPlan("other"), Plan(A).same_for_ever, other=value)
        four, six, long = Plan(A, A, A, A), Plan(A, A, A, A, A, A), Plan(Tick(*SIX))
        self.assert_raised(BadPlan("mute"), lambda: Plan(A) | Plan(N))
        self.assert_raised(BadPlan("mute"), lambda: Plan(A, N) | Plan(A))
        self.assert_raised(TooMany("phases", 6), lambda: four | six)
        self.assert_raised(TooMany("phases", 6), lambda: Plan(*[A] * 5) | Plan(A, A))
        self.assert_raised(TooMany("sums", 6), lambda: long | Plan(Tick((7,))))
        self.assertEqual(long | Plan(B), long)
        # Mute at the tick 11 alone: told ahead of too many phases, and these ahead of too many sums.
        self.assert_raised(BadPlan("mute"), lambda: Plan(A, A, A, N) | Plan(A, A, A, N, A, N))
        self.assert_raised(TooMany("phases", 6), lambda: Plan(Tick(*SIX), A, A, A) | Plan(*[Tick((7,))] * 3))
        self.assert_raised(BadPlan("mute"), lambda: Plan(Tick(*SIX), A) | Plan(Tick((7,)), N))

    def test_with_phase(self):
        plan = Plan(A, B, M)
        self.assertEqual(plan.with_phase(0, N), Plan(N, B, M))
        self.assertEqual(plan.with_phase(2, A), Plan(A, B, A))
        self.assertEqual(plan.with_phase(tick=C, phase=1), Plan(A, C, M))
        self.assertEqual(plan, Plan(A, B, M))
        self.assert_raised(NoPhase(3), plan.with_phase, 3, A)
        for value in ANY:
            if not isinstance(value, Tick):
                self.assert_raised(BadPlan("tick"), plan.with_phase, 1, value)
                self.assert_raised(NoPhase(-1), plan.with_phase, -1, value)

    def test_shortest(self):
        for size in range(1, 7):
            for ticks in product((A, N), repeat=size):
                plan = Plan(*ticks)
                wanted = min(many for many in range(1, size + 1)
                             if all(ticks[at % size] == ticks[at % many] for at in range(60)))
                self.assertEqual(plan.shortest(), Plan(*ticks[:wanted]))
                self.assertEqual(plan, Plan(*ticks))

    def test_same_for_ever(self):
        plans = [Plan(*ticks) for size in range(1, 5) for ticks in product((A, B), repeat=size)]
        for one, other in product(plans, repeat=2):
            wanted = all(one.tick_at(number) == other.tick_at(number) for number in range(12))
            self.assertIs(one.same_for_ever(other), wanted)

    def test_equal(self):
        self.assertTrue(Plan(A, B) == Plan(A, B))
        self.assertFalse(Plan(A, B) == Plan(B, A))
        self.assertFalse(Plan(A, A) == Plan(A))
        self.assertTrue(Plan(M) != Plan(Tick((1, 2))))
        for value in ANY:
            if not isinstance(value, Plan):
                self.assertFalse(Plan(A) == value)


class TestCopiesAndParity(Errors, unittest.TestCase):

    def test_copies(self):
        self.assertEqual(copies(), Plan(A))
        for age in range(1, 9):
            self.assertEqual(copies(age), Plan(Tick((0,), (age,))))
        self.assertEqual(copies(3, 1, 8, 2, 4), Plan(Tick((0,), (3,), (1,), (8,), (2,), (4,))))

    def test_copies_refused(self):
        for value in [0, 9, *NO_NUMBERS, 10 ** 39]:
            self.assert_raised(BadTick(0), copies, value)
            self.assert_raised(BadTick(1), copies, 1, value, value)
            self.assert_raised(BadTick(6), copies, 1, 2, 3, 4, 5, 6, value)
        self.assert_raised(BadTick(1), copies, 1, 1)
        self.assert_raised(BadTick(3), copies, 1, 2, 3, 2, 9)
        self.assert_raised(BadTick(6), copies, 1, 2, 3, 4, 5, 6, 6)
        self.assert_raised(TooMany("sums", 6), copies, 1, 2, 3, 4, 5, 6)
        self.assert_raised(TooMany("sums", 6), copies, 8, 7, 6, 5, 4, 3, 2, 1)

    def test_parity(self):
        for size in range(1, 6):
            last = Tick(tuple(range(1, size + 1)), mute=True)
            self.assertEqual(parity(size), Plan(*[A] * size, last))
            self.assertEqual(parity(size=size).rate, (size + 1, size))
        for value in [0, 6, 10 ** 39, *NO_NUMBERS]:
            self.assert_raised(BadCount(value), parity, value)

    def test_masks_make_spaces(self):
        for tick in (B, D, Tick((0, 1), (1, 2), (0, 2))):
            self.assertEqual(all_sums(Space(*tick.masks).rows), all_sums(tick.masks))


if __name__ == "__main__":
    unittest.main()
