"""What holds over the whole program, over several files together."""

import unittest
from itertools import product

from laterepair.bench import Bench
from laterepair.better import first_plan, needless, slim, spare, trimmed
from laterepair.compared import compare, order
from laterepair.delays import fewest_losses, worst_delay, worst_delays
from laterepair.desk import Desk
from laterepair.errors import RepairError
from laterepair.inside import inside
from laterepair.judged import judge
from laterepair.look_better import shows_first
from laterepair.look_compared import shows_compared
from laterepair.look_delays import shows_delay, shows_fewest
from laterepair.look_judged import shows_judged
from laterepair.plans import Plan, copies, parity
from laterepair.reader import read_packets, read_setting, read_verdict
from laterepair.rules import Burst, Machine, Rule, Total, Window
from laterepair.seen import tight_machine
from laterepair.streams import Receiver, Sender, play
from laterepair.texts import packets_text, setting_text, verdict_text
from tests.helpers import texts_up_to
from tests.live import chosen, some_plan

PLANS = [copies(1), copies(2), copies(1, 3), parity(1), parity(2), parity(3), *[Plan.read(text) for text in (
    "0 , 1 2", "0", "0 , 1 / 0", "0 / mute 1 , 2 / 0 , 1 3", "0 , 2 , 1 2 / mute 1 2 3", "0 1 , 1", "0 , 1 / 0 , 2 / 0 , 3",
    "mute - / 0 , 1 , 2", "0 , 1 2 , 3 4", "1 / 0 2", "mute 1 / mute 2")]]
# Behind kept packets alone these rules let what they let at first.
FREE = [Total(0), Total(1), Total(2), Burst(1, 1), Burst(1, 3), Burst(2, 2), Window(1, 3), Window(2, 5), Machine((0, 0))]
RULES = [*FREE, Machine((0, 1), (0, 2), (0, None)), Machine((1, None), (0, 0)), Burst(2, 1) & Total(2),
         tight_machine("x..x", ".xx")]


def settings(delays=(0, 1, 2, 4)):
    return product(PLANS, RULES, delays)


class TestJudged(unittest.TestCase):

    def test_a_longer_delay_keeps_a_plan_in_time(self):
        for plan, rule in product(PLANS, RULES):
            verdicts = [bool(judge(plan, rule, delay)) for delay in range(7)]
            self.assertEqual(verdicts, sorted(verdicts))

    def test_a_rule_that_lets_less_keeps_a_plan_in_time(self):
        for (plan, rule, delay), other in product(settings((1, 3)), RULES[::2]):
            if judge(plan, rule, delay):
                self.assertTrue(judge(plan, rule & other, delay))
                if inside(other, rule):
                    self.assertTrue(judge(plan, other, delay))
            elif inside(rule, other):
                self.assertFalse(judge(plan, other, delay))

    def test_either_of_two_rules(self):
        for (plan, rule, delay), other in product(settings((1, 3)), RULES[::3]):
            both = judge(plan, rule, delay) and judge(plan, other, delay)
            self.assertIs(bool(judge(plan, rule | other, delay)), bool(both))

    def test_more_sums_keep_a_plan_in_time(self):
        for plan, rule, delay in settings():
            if not judge(plan, rule, delay):
                continue
            for phase, ages in ((0, (5,)), (len(plan) - 1, (1, 4)), (0, (1, 2, 3))):
                if ages not in plan[phase]:
                    bench = Bench(plan)
                    bench.put(phase, ages)
                    self.assertTrue(judge(bench.now, rule, delay))
                    self.assertTrue(compare(bench.now, plan, rule, delay))

    def test_joined_plans(self):
        for one, other in product(PLANS, PLANS[::2]):
            try:
                joined = one | other
            except RepairError:
                continue
            for rule, delay in product(RULES[::3], (1, 3)):
                if judge(one, rule, delay) or judge(other, rule, delay):
                    self.assertTrue(judge(joined, rule, delay))
                for part in (one, other):
                    self.assertIn(order(joined, part, rule, delay), ("better", "alike"))

    def test_turned_plans(self):
        for plan, rule in product(PLANS, FREE):
            numbers = worst_delays(plan, rule, 4)
            for turn in range(1, len(plan) + 2):
                turned = plan >> turn
                for delay in (1, 3):
                    self.assertIs(bool(judge(turned, rule, delay)), bool(judge(plan, rule, delay)))
                shift = turn % len(plan)
                self.assertEqual(worst_delays(turned, rule, 4), numbers[shift:] + numbers[:shift])

    def test_plans_that_are_the_same_for_ever(self):
        for plan, rule, delay in settings((1, 3)):
            if len(plan) <= 3:
                doubled = Plan(*plan, *plan)
                self.assertTrue(doubled.same_for_ever(plan))
                self.assertIs(bool(judge(doubled, rule, delay)), bool(judge(plan, rule, delay)))
                self.assertEqual(doubled.shortest(), plan.shortest())

    def test_trimmed_and_slim_plans(self):
        for plan, rule, delay in settings((1, 3)):
            less = trimmed(plan)
            self.assertEqual(judge(less, rule, delay), judge(plan, rule, delay))
            self.assertEqual(order(less, plan, rule, delay), "alike")
            slimmer = slim(plan, rule, delay)
            self.assertIs(bool(judge(slimmer, rule, delay)), bool(judge(plan, rule, delay)))
            if judge(plan, rule, delay):
                self.assertEqual(spare(slimmer, rule, delay), ())
                self.assertEqual(needless(slimmer), ())
                self.assertLessEqual(set(needless(plan)), set(spare(plan, rule, delay)))

    def test_rules_with_the_same_losses(self):
        for plan, delay in product(PLANS, (1, 2)):
            self.assertEqual(judge(plan, Window(1, 3), delay), judge(plan, Burst(1, 2), delay))
            self.assertEqual(judge(plan, Rule.read("( total 1 | total 0 )"), delay), judge(plan, Total(1), delay))


class TestDelays(unittest.TestCase):

    def test_the_worst_delay_is_the_least_in_time(self):
        many = 0
        for plan, rule in product(PLANS, RULES):
            numbers = [number for number in worst_delays(plan, rule, 5) if number != "mute"]
            for delay in range(6):
                wanted = all(number is not None and number <= delay for number in numbers)
                self.assertIs(bool(judge(plan, rule, delay)), wanted)
                many += wanted
        self.assertGreater(many, 100)

    def test_losses_make_a_row_late_in_play(self):
        for plan, rule in product(PLANS, RULES):
            for phase, tick in enumerate(plan):
                if tick.mute:
                    continue
                paper = worst_delay(plan, rule, phase, 4)
                self.assertTrue(shows_delay(plan, rule, phase, 4, paper))
                if paper.losses is None:
                    continue
                delay = 4 if paper.number is None else paper.number - 1
                receiver = play(plan, [], paper.losses, delay)
                late = len(paper.losses) - 1 - delay
                self.assertEqual(late % len(plan), phase)
                self.assertNotIn(late, receiver.told)
                receiver.wait()
                self.assertEqual(receiver.late[-1], late)
                if paper.number is not None:
                    self.assertIn(late, play(plan, [], paper.losses + ".", delay + 1).told)

    def test_rows_that_have_a_delay_come_with_it(self):
        for plan, rule in product(PLANS, RULES[1::3]):
            for phase, number in enumerate(worst_delays(plan, rule, 4)):
                if number in (None, "mute"):
                    continue
                for losses in rule.all_losses(7):
                    receiver = play(plan, [], losses, number)
                    for tick in range(phase, 7 - number, len(plan)):
                        self.assertIn(tick, receiver.told)

    def test_fewest_losses_against_judge(self):
        for (plan, rule), delay in product(product(PLANS, [None, *RULES]), (0, 1, 3)):
            paper = fewest_losses(plan, delay, rule)
            self.assertTrue(shows_fewest(plan, delay, rule, paper))
            if paper.number is None:
                self.assertTrue(judge(plan, rule or Machine((0, 0)), delay))
                continue
            limits = [Total(number) if rule is None else rule & Total(number) for number in range(paper.number + 1)]
            self.assertEqual([bool(judge(plan, limit, delay)) for limit in limits], [True] * paper.number + [False])
            self.assertEqual(paper.losses.count("x"), paper.number)
            receiver = play(plan, [], paper.losses, delay)
            receiver.wait()
            self.assertTrue(receiver.late)


class TestPlays(unittest.TestCase):

    def test_plays_of_plans_in_time_have_no_late_row(self):
        chooser = chosen(51)
        seen = {True: 0, False: 0}
        for plan, rule, delay in settings():
            verdict = judge(plan, rule, delay)
            seen[bool(verdict)] += 1
            longest = 6 if verdict else len(verdict.losses)
            for losses in rule.all_losses(min(longest, 6)):
                receiver = play(plan, [chooser.randint(0, 99) for _ in losses], losses, delay)
                receiver.wait()
                if verdict or len(losses) < len(verdict.losses):
                    self.assertEqual(receiver.late, ())
            if not verdict:
                receiver = play(plan, [7] * len(verdict.losses), verdict.losses, delay)
                self.assertEqual(receiver.late, ())
                receiver.wait()
                self.assertEqual(receiver.late, (len(verdict.losses) - 1 - delay,))
        self.assertGreater(min(seen.values()), 100)

    def test_long_plays_of_plans_in_time(self):
        chooser = chosen(52)
        for plan, rule, delay in settings((1, 3)):
            if not judge(plan, rule, delay):
                continue
            place, letters = 0, []
            for _ in range(120):
                is_lost = rule.behind(place, True) is not None and chooser.random() < 0.6
                place = rule.behind(place, is_lost)
                letters.append("x" if is_lost else ".")
            rows = [chooser.randint(0, 10 ** 30) for _ in letters]
            receiver = play(plan, rows, "".join(letters), delay)
            self.assertEqual(receiver.late, ())
            loud = [tick for tick in range(120) if not plan.tick_at(tick).mute]
            for tick, row in zip(loud, rows):
                if tick < 120 - delay:
                    self.assertEqual(receiver.told[tick], row)
                elif tick in receiver.told:
                    self.assertEqual(receiver.told[tick], row)

    def test_the_two_streams_of_a_late_verdict(self):
        for plan, rule, delay in settings():
            verdict = judge(plan, rule, delay)
            if verdict:
                continue
            senders, receivers = [Sender(plan), Sender(plan)], [Receiver(plan, delay), Receiver(plan, delay)]
            for tick, letter in enumerate(verdict.losses):
                rows = [None, None] if plan.tick_at(tick).mute else [0, verdict.other[tick]]
                packets = [sender.send(row) for sender, row in zip(senders, rows)]
                if letter == "x":
                    told = [receiver.wait() for receiver in receivers]
                else:
                    self.assertEqual(packets[0], packets[1])
                    told = [receiver.hear(packet) for receiver, packet in zip(receivers, packets)]
                self.assertEqual(told[0], told[1])
            late = len(verdict.losses) - 1 - delay
            for receiver in receivers:
                receiver.wait()
                self.assertEqual((receiver.told, receiver.late), (receivers[0].told, (late,)))
                self.assertEqual(receiver.known(delay), receivers[0].known(delay))

    def test_better_plans_tell_more_in_play(self):
        for one, other in product(PLANS[:9], repeat=2):
            if [one.tick_at(tick).mute for tick in range(12)] != [other.tick_at(tick).mute for tick in range(12)]:
                continue
            for rule, delay in ((Burst(2, 2), 3), (Total(2), 1)):
                verdict = compare(one, other, rule, delay)
                self.assertTrue(shows_compared(one, other, rule, delay, verdict))
                if verdict:
                    for losses in rule.all_losses(6):
                        plays = [play(plan, [], losses, delay) for plan in (one, other)]
                        self.assertLessEqual(set(plays[1].told) & set(range(6 - delay)), set(plays[0].told))
                else:
                    tick = len(verdict.losses) - 1 - delay
                    plays = [play(plan, [], verdict.losses, delay) for plan in (one, other)]
                    self.assertNotIn(tick, plays[0].told)
                    self.assertIn(tick, plays[1].told)


class TestTexts(unittest.TestCase):

    def test_settings_and_verdicts_through_texts(self):
        for plan, rule, delay in settings():
            page = setting_text(plan, rule, delay)
            again = read_setting(page)
            self.assertEqual(again, (plan, rule, delay))
            verdict = judge(*again)
            self.assertEqual(verdict, judge(plan, rule, delay))
            told = read_verdict(verdict_text(verdict))
            self.assertEqual(told, verdict)
            self.assertTrue(shows_judged(plan, rule, delay, told))

    def test_streams_through_texts(self):
        chooser = chosen(53)
        for turn in range(60):
            plan, delay = some_plan(chooser), chooser.randint(0, 8)
            sender, receivers = Sender(plan), [Receiver(plan, delay), Receiver(plan, delay)]
            packets = []
            for tick in range(15):
                packets.append(sender.send() if plan.tick_at(tick).mute else sender.send(chooser.randint(0, 10 ** 30)))
            kept = [packet for packet in packets if chooser.random() < 0.7]
            for first, second in zip(kept, read_packets(packets_text(kept))):
                self.assertEqual(receivers[0].hear(first), receivers[1].hear(second))
            self.assertEqual((receivers[0].told, receivers[0].late), (receivers[1].told, receivers[1].late))


class TestDesks(unittest.TestCase):

    def test_desks_against_the_functions(self):
        desk = Desk()
        plans, rules = dict(zip("abcdefghijklmnopq", PLANS)), dict(zip("abcdefghijklm", RULES))
        desk.run(*[f"plan {name} {plan}" for name, plan in plans.items()],
                 *[f"rule {name} {rule}" for name, rule in rules.items()])
        self.assertEqual((desk.plans, desk.rules), (plans, rules))
        for (name, plan), (key, rule) in product(plans.items(), rules.items()):
            told = desk.run(f"judge {name} {key} 2", f"spare {name} {key} 2", f"fewest {name} 2 {key}", f"worst {name} {key}")
            verdict = judge(plan, rule, 2)
            number = fewest_losses(plan, 2, rule).number
            self.assertEqual(told, [
                f"in time {len(verdict.table)}" if verdict else f"late {len(verdict.losses)}",
                " ".join(f"{phase}:{at}" for phase, at in spare(plan, rule, 2)) or "-",
                "-" if number is None else str(number),
                " ".join("-" if one is None else str(one) for one in worst_delays(plan, rule))])
        for name, plan in plans.items():
            self.assertEqual(desk.tried(lambda one: one.run(f"trim {name}", f"turn {name} 1", f"show {name}")[2]),
                             str(trimmed(plan) >> 1))
        for (name, one), (key, other) in product(rules.items(), repeat=2):
            self.assertEqual(desk(f"inside {name} {key}") == "inside", bool(inside(one, other)))

    def test_benches_and_desks(self):
        bench, desk = Bench(copies(1)), Desk()
        desk("plan a 0 , 1")
        for word, told, line in (("put", (0, (2, 3)), "put a 0 2 3"), ("turn", (5,), "turn a 5")):
            getattr(bench, word)(*told)
            desk(line)
            self.assertEqual(desk("show a"), str(bench.now))
        for _ in range(2):
            bench.undo()
            desk("undo")
            self.assertEqual(desk("show a"), str(bench.now))

    def test_first_plans(self):
        for rule, delay in product(RULES, (1, 2)):
            told = first_plan(2, 2, rule, delay)
            self.assertTrue(shows_first(2, 2, rule, delay, told))
            for plan, late in told.losers:
                self.assertTrue(shows_judged(plan, rule, delay, late))
            if told:
                self.assertTrue(judge(told.plan, rule, delay))
                self.assertEqual(read_verdict(verdict_text(told.table)), told.table)

    def test_rules_told_back_from_late_losses(self):
        for plan, rule, delay in settings((1, 3)):
            verdict = judge(plan, rule, delay)
            if not verdict:
                seen = tight_machine(verdict.losses)
                self.assertTrue(inside(seen, Total(12)))
                self.assertFalse(judge(plan, seen, delay))
                self.assertEqual(len(judge(plan, seen, delay).losses), len(verdict.losses))


class TestLossesThatAreShort(unittest.TestCase):

    def test_no_shorter_losses_make_a_row_late(self):
        for plan, rule, delay in settings((0, 1, 2)):
            verdict = judge(plan, rule, delay)
            longest = 5 if verdict else min(5, len(verdict.losses) - 1)
            for losses in texts_up_to(longest):
                if losses in rule:
                    receiver = play(plan, [], losses, delay)
                    receiver.wait()
                    self.assertEqual(receiver.late, ())


if __name__ == "__main__":
    unittest.main()
