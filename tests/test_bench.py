"""Benches, against lists of ticks and a list of what was done."""

import unittest

from laterepair.bench import Bench
from laterepair.errors import BadBench, BadCount, BadPlan, BadTick, NoPhase, Nothing, RepairError, TooMany
from laterepair.plans import Plan, Tick, copies, parity
from tests.helpers import ANY, NO_INTEGERS, NO_PLANS, Errors
from tests.live import chosen, some_plan

WORDS = ["add", "drop", "set", "put", "take", "turn", "replace"]
NO_TICKS = [value for value in ANY if not isinstance(value, Tick)]
NO_SUMS = [*[value for value in ANY if value not in ((0,), (0, 1)) or not isinstance(value, tuple)
             or [type(age) for age in value] not in ([int], [int, int])], (9,), (1, 1), (2, 1), (-1,), (1, True), ("1",)]


def do(bench, word, *told):
    """Does a deed, and returns what it returns."""
    if word == "set":
        bench[told[0]] = told[1]
        return None
    if word == "now":
        bench.now = told[0]
        return None
    return getattr(bench, word)(*told)


def done(plan, word, *told):
    """The plan behind a deed, by lists of ticks."""
    ticks = list(plan)
    if word == "add":
        ticks.append(told[0])
    elif word == "drop":
        del ticks[told[0]]
    elif word == "set":
        ticks[told[0]] = told[1]
    elif word == "put":
        ticks[told[0]] = Tick(*ticks[told[0]].sums, told[1], mute=ticks[told[0]].mute)
    elif word == "take":
        old = ticks[told[0]]
        ticks[told[0]] = Tick(*[ages for ages in old.sums if ages != told[1]], mute=old.mute)
    elif word == "turn":
        ticks = [ticks[(at + told[0]) % len(ticks)] for at in range(len(ticks))]
    else:
        ticks = list(told[0])
    return Plan(*ticks)


def some_deed(chooser, plan):
    """A word and what it is told; it can be done, or is refused."""
    word = chooser.choice([*WORDS, "now"])
    phase = chooser.randrange(7)
    tick = chooser.choice(list(some_plan(chooser)))
    sums = [ages for old in plan for ages in old.sums] or [(1,)]
    ages = chooser.choice([chooser.choice(sums), (chooser.randrange(9),), (1, 4), (0, 2)])
    return {"add": (word, tick), "drop": (word, phase), "set": (word, phase, tick), "put": (word, phase, ages),
            "take": (word, phase, ages), "turn": (word, chooser.choice([0, 1, 2, 5, 10 ** 30])),
            "replace": (word, some_plan(chooser)), "now": (word, some_plan(chooser))}[word]


class TestDeeds(Errors, unittest.TestCase):

    def test_by_lists_of_ticks(self):
        chooser = chosen(21)
        counts = {True: 0, False: 0}
        for turn in range(150):
            first = some_plan(chooser)
            bench, plan, past = Bench(first), first, []
            text = str(first)
            for step in range(40):
                deed = some_deed(chooser, plan)
                try:
                    after = done(plan, *deed)
                    refused = deed[0] == "take" and after == plan
                except (RepairError, IndexError):
                    refused = True
                counts[refused] += 1
                if refused:
                    with self.assertRaises(RepairError):
                        do(bench, *deed)
                else:
                    told = do(bench, *deed)
                    self.assertEqual(told, {"add": len(plan), "drop": plan[deed[1]] if deed[0] == "drop" else None}.get(deed[0]))
                    past.append(("replace" if deed[0] == "now" else deed[0], plan))
                    plan = after
                if past and chooser.random() < 0.3:
                    word, plan = past.pop()
                    self.assertEqual(bench.undo(), word)
                self.assert_stands(bench, plan, len(past))
            while past:
                word, plan = past.pop()
                self.assertEqual(bench.undo(), word)
                self.assert_stands(bench, plan, len(past))
            self.assert_raised(Nothing(), bench.undo)
            self.assertEqual((bench.now, str(first)), (first, text))
        self.assertGreater(min(counts.values()), 500)

    def assert_stands(self, bench, plan, many):
        self.assertIs(type(bench.now), Plan)
        self.assertEqual(bench.now, plan)
        self.assertEqual(len(bench), many)
        self.assertIs(bool(bench), many > 0)
        self.assertEqual([bench[at] for at in range(len(plan))], list(plan))
        self.assertTrue(bench == Bench(plan) and not bench != Bench(plan))

    def test_by_name(self):
        bench = Bench(plan=copies(1))
        self.assertEqual(bench.add(tick=Tick((0,))), 1)
        self.assertIsNone(bench.put(phase=1, ages=(1, 2)))
        self.assertIsNone(bench.take(phase=0, ages=(0,)))
        self.assertIsNone(bench.turn(n=1))
        self.assertEqual(bench.drop(phase=1), Tick((1,)))
        self.assertIsNone(bench.replace(plan=parity(1)))
        self.assertEqual(bench.tried(work=len), 6)
        self.assertEqual([bench.undo() for _ in range(6)], ["replace", "drop", "turn", "take", "put", "add"])

    def test_now_is_set(self):
        bench = Bench(copies(1))
        bench.now = parity(3)
        self.assertEqual((bench.now, len(bench)), (parity(3), 1))
        bench.now = parity(3)
        self.assertEqual([bench.undo(), bench.undo(), bench.now], ["replace", "replace", copies(1)])
        for value in NO_PLANS:
            self.assert_raised(BadBench("plan"), setattr, bench, "now", value)
            self.assert_raised(BadBench("plan"), bench.replace, value)
            self.assert_raised(BadBench("plan"), Bench, value)
            self.assert_raised(BadBench("plan"), Bench, plan=value)
        self.assertEqual(len(bench), 0)

    def test_deeds_that_change_nothing_count(self):
        plan = Plan.read("0 , 1 / 0")
        bench = Bench(plan)
        bench.turn(0)
        bench.turn(2)
        bench[1] = plan[1]
        bench.replace(plan)
        bench.now = bench.now
        self.assertEqual((len(bench), bench.now), (5, plan))
        self.assertEqual([bench.undo() for _ in range(5)], ["replace", "replace", "set", "turn", "turn"])

    def test_new_deeds_on_what_is_left(self):
        bench = Bench(copies(1))
        bench.add(Tick((0,)))
        bench.put(1, (2,))
        bench.undo()
        bench.put(1, (3,))
        bench.turn(1)
        self.assertEqual([str(bench.now), bench.undo(), bench.undo(), str(bench.now), bench.undo(), str(bench.now)],
                         ["0 , 3 / 0 , 1", "turn", "put", "0 , 1 / 0", "add", "0 , 1"])
        self.assert_raised(Nothing(), bench.undo)

    def test_a_tick_becomes_mute_in_its_place(self):
        bench = Bench(Plan.read("0 , 1 / 0 , 1 2"))
        bench[1] = Tick((1, 2), mute=True)
        self.assertEqual(str(bench.now), "0 , 1 / mute 1 2")
        bench[0] = Tick(mute=True)
        self.assertEqual(str(bench.now), "mute - / mute 1 2")
        self.assert_raised(BadTick("mute"), bench.put, 0, (0, 3))
        bench.put(0, (3,))
        self.assertEqual((str(bench.now), len(bench)), ("mute 3 / mute 1 2", 3))


class TestErrors(Errors, unittest.TestCase):

    def test_phases(self):
        for many in range(1, 7):
            plan = Plan(*[Tick((0,))] * many)
            bench = Bench(plan)
            for phase in [many, 6, 7, -1, -many, 10 ** 39, *NO_INTEGERS]:
                for call in (bench.drop, lambda value: bench[value]):
                    self.assert_raised(NoPhase(phase), call, phase)
                for value in ANY:
                    self.assert_raised(NoPhase(phase), do, bench, "set", phase, value)
                    self.assert_raised(NoPhase(phase), bench.put, phase, value)
                    self.assert_raised(NoPhase(phase), bench.take, phase, value)
            self.assertEqual((len(bench), bench.now), (0, plan))

    def test_ticks(self):
        bench = Bench(Plan(*[Tick((0,))] * 6))
        for value in NO_TICKS:
            self.assert_raised(BadBench("tick"), bench.add, value)
            self.assert_raised(BadBench("tick"), bench.add, tick=value)
            self.assert_raised(BadBench("tick"), do, bench, "set", 5, value)
        self.assert_raised(TooMany("phases", 6), bench.add, Tick((0,)))
        bench.drop(0)
        self.assertEqual(bench.add(Tick()), 5)
        self.assert_raised(TooMany("phases", 6), bench.add, Tick())
        self.assertEqual(len(bench), 2)

    def test_the_last_tick(self):
        bench = Bench(copies(1))
        self.assert_raised(BadPlan("ticks"), bench.drop, 0)
        self.assert_raised(NoPhase(1), bench.drop, 1)
        self.assertEqual((len(bench), bench.now), (0, copies(1)))

    def test_sums(self):
        bench = Bench(Plan.read("0 , 1 / mute 1"))
        for value in NO_SUMS:
            self.assert_raised(BadTick(2), bench.put, 0, value)
            self.assert_raised(BadTick(1), bench.put, 1, value)
            self.assert_raised(BadTick("sum"), bench.take, 0, value)
        self.assert_raised(BadTick(2), bench.put, 0, (1,))
        self.assert_raised(BadTick("mute"), bench.put, 1, (0, 1))
        self.assert_raised(BadTick("sum"), bench.take, 1, (0,))
        for age in range(2, 6):
            bench.put(0, (age,))
        self.assert_raised(TooMany("sums", 6), bench.put, 0, (6,))
        self.assert_raised(BadTick(6), bench.put, 0, (5,))
        self.assertEqual((len(bench), str(bench.now)), (4, "0 , 1 , 2 , 3 , 4 , 5 / mute 1"))
        for age in range(6):
            bench.take(0, (age,))
        self.assertEqual(str(bench.now), "- / mute 1")

    def test_turns(self):
        bench = Bench(parity(2))
        for value in [-1, -(10 ** 39), *NO_INTEGERS]:
            self.assert_raised(BadCount(value), bench.turn, value)
            self.assert_raised(BadCount(value), bench.turn, n=value)
        self.assertEqual(len(bench), 0)
        bench.turn(10 ** 39)
        self.assertEqual(bench.now, parity(2) >> 10 ** 39)

    def test_iterating(self):
        bench = Bench(parity(2))
        for call in (iter, list, tuple, set, lambda value: [*value], lambda value: Tick((0,)) in value, enumerate):
            with self.assertRaises(TypeError):
                call(bench)

    def test_equal(self):
        bench, other = Bench(copies(1)), Bench(copies(2))
        self.assertFalse(bench == other)
        other.replace(copies(1))
        self.assertTrue(bench == other and bench == bench)
        self.assertFalse(Bench(Plan.read("0 / 0")) == Bench(Plan.read("0")))
        for value in [*ANY, copies(1)]:
            if not isinstance(value, Bench):
                self.assertFalse(bench == value)
                self.assertTrue(bench != value)


class TestTrials(Errors, unittest.TestCase):

    def state(self, bench):
        return (str(bench.now), len(bench))

    def test_trials(self):
        chooser = chosen(22)
        for turn in range(80):
            bench = Bench(some_plan(chooser))
            states = []

            def nested(depth):
                states.append(self.state(bench))
                with bench.trial() as same:
                    self.assertIs(same, bench)
                    for _ in range(4):
                        try:
                            do(bench, *some_deed(chooser, bench.now))
                        except RepairError:
                            pass
                        if len(bench) and chooser.random() < 0.4:
                            bench.undo()
                    if depth:
                        nested(depth - 1)
                self.assertEqual(self.state(bench), states.pop())
            for deed in range(3):
                bench.turn(1)
                nested(3)
            self.assertEqual([bench.undo() for _ in range(3)], ["turn"] * 3)
            self.assert_raised(Nothing(), bench.undo)

    def test_errors_go_on(self):
        bench = Bench(parity(2))
        bench.turn(1)
        before = self.state(bench)

        def fails(same):
            same.undo()
            same.add(Tick())
            with same.trial():
                same.drop(0)
                same.drop(7)
        self.assert_raised(NoPhase(7), bench.tried, fails)
        self.assertEqual(self.state(bench), before)
        for error in (KeyError("x"), ZeroDivisionError("y"), NoPhase(3), KeyboardInterrupt("z")):
            with self.assertRaises(type(error)) as caught:
                with bench.trial() as same:
                    same.replace(copies(1))
                    raise error
            self.assertIs(caught.exception, error)
            self.assertEqual(self.state(bench), before)

    def test_tried(self):
        bench = Bench(parity(2))
        for value in ANY:
            self.assertIs(bench.tried(lambda same: value), value)
        told = bench.tried(lambda same: (same is bench, same.add(Tick()), same.tried(lambda one: one.drop(0)), len(same)))
        self.assertEqual(told, (True, 3, Tick((0,)), 1))
        self.assertEqual(self.state(bench), (str(parity(2)), 0))

    def test_a_trial_begins_where_its_block_begins(self):
        bench = Bench(parity(2))
        trial = bench.trial()
        bench.turn(1)
        with trial:
            bench.turn(1)
            with trial:
                bench.replace(copies(3))
            self.assertEqual(len(bench), 2)
        self.assertEqual(self.state(bench), (str(parity(2) >> 1), 1))

    def test_twins(self):
        bench = Bench(parity(2))
        bench.turn(1)
        bench.put(0, (8,))
        twin = bench.twin()
        self.assertIs(type(twin), Bench)
        self.assertTrue(twin == bench and len(twin) == 2)
        self.assertEqual([twin.undo(), twin.undo(), twin.now], ["put", "turn", parity(2)])
        self.assertEqual(self.state(bench), ("0 , 8 / mute 1 2 / 0", 2))
        bench.drop(0)
        twin.add(Tick())
        self.assertEqual((self.state(bench), self.state(twin)),
                         (("mute 1 2 / 0", 3), ("0 / 0 / mute 1 2 / -", 1)))
        self.assertEqual([bench.undo() for _ in range(3)], ["drop", "put", "turn"])

    def test_what_was_handed_in_stays(self):
        plan = Plan.read("0 , 1 / mute 1")
        ticks = [str(tick) for tick in plan]
        bench = Bench(plan)
        bench.put(0, (2,))
        bench[1] = Tick()
        bench.drop(0)
        self.assertEqual([str(tick) for tick in plan], ticks)
        now = bench.now
        bench.put(0, (5,))
        self.assertEqual((str(now), str(bench.now)), ("-", "5"))


if __name__ == "__main__":
    unittest.main()
