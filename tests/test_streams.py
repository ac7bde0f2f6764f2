"""Packets, senders and receivers, against a receiver that keeps the sums of all ticks."""

import unittest
from itertools import permutations

from laterepair.errors import BadCount, BadDelay, BadLosses, BadPacket, BadSpace, BadStream, BadText, Nothing
from laterepair.judged import judge
from laterepair.plans import Plan, copies, parity
from laterepair.rules import Burst, Machine, Total, Window
from laterepair.spaces import Space
from laterepair.standings import standing_behind
from laterepair.streams import Packet, Receiver, Sender, play
from tests.helpers import ANY, NO_DELAYS, NO_INTEGERS, NO_PLANS, NO_ROWS, NO_STRINGS, Errors, all_texts, changed_words
from tests.helpers import same, wrong_word
from tests.live import SlowReceiver, chosen, some_losses, some_plan
from tests.worlds import is_late, states_along

MOST = 10 ** 30
PAIR = Plan.read("0 , 1 2")
SOUND = parity(2)
LATE = Plan.read("0 / mute 1 / 0 , 2 / mute 3")


def is_natural_word(word):
    return word != "" and set(word) <= set("0123456789") and (word[0] != "0" or word == "0")


def is_packet_text(words):
    """Whether these are all words of a packet."""
    if len(words) < 3 or not is_natural_word(words[0]) or words[1] != ":":
        return False
    return words[2:] == ["-"] or all(is_natural_word(word) for word in words[2:])


class TestPacket(Errors, unittest.TestCase):

    def test_texts(self):
        for tick, parts, text in ((7, (5, 0), "7 : 5 0"), (7, (), "7 : -"), (0, (0,), "0 : 0"),
                                  (10 ** 39, (10 ** 39, 1), f"{10 ** 39} : {10 ** 39} 1")):
            self.assertEqual(str(Packet(tick, parts)), text)
            self.assertEqual(str(Packet(parts=parts, tick=tick)), text)
            read = Packet.read(text)
            self.assertIs(type(read), Packet)
            self.assertTrue(same([read.tick, read.parts], [tick, parts]))
            self.assertEqual(Packet.read(text=text), Packet(tick, parts))

    def test_long_numbers_and_many_words(self):
        for text in ("1" * 3900 + " : -", "0 : " + "9" * 3900, "0 :" + " 1" * 1900):
            self.assertEqual(str(Packet.read(text)), text)

    def test_words_that_cannot_stand(self):
        others = ["", "0", "12", "01", "+1", "-1", "-", ":", "1:", ",", "x", "1.0", "1_0", " ", "\n", "2\n", "None"]
        endings = [[], ["0"], [":", "-"], [":", "1"], ["-"], ["1"]]
        for text in ("7 : 5 0", "0 : -", "12 : 7", "3 : 1 2 3 4 5 6 7"):
            for words in changed_words(text.split(" "), others):
                words = " ".join(words).split(" ")
                wrong = wrong_word(words, is_packet_text, endings)
                if wrong is None:
                    self.assertEqual(str(Packet.read(" ".join(words))), " ".join(words))
                else:
                    self.assert_raised(BadText(0, wrong), Packet.read, " ".join(words))

    def test_named_words(self):
        for text, word in (("", 0), (":", 0), ("7", 1), ("7 :", 2), ("7 : ", 2), ("7  : 1", 1), ("7 : - -", 3),
                           ("7 : - 1", 3), ("7 : 1 -", 3), ("07 : 1", 0), ("7 : 1 02", 3), ("7 : 1\n", 2),
                           ("7 : 1 ", 3), (" 7 : 1", 0), ("-7 : 1", 0), ("7 : +1", 2), ("7 : True", 2)):
            self.assert_raised(BadText(0, word), Packet.read, text)

    def test_what_is_no_string(self):
        for value in [*NO_STRINGS, b"7 : 1"]:
            self.assert_raised(BadText(0, 0), Packet.read, value)


def packets_of(plan, rows):
    """The packets of a stream, by its rows of all ticks, 0 at mute ones."""
    found = []
    for number in range(len(rows)):
        values = []
        for ages in plan.tick_at(number).sums:
            value = 0
            for age in ages:
                value ^= rows[number - age] if age <= number else 0
            values.append(value)
        found.append(Packet(number, tuple(values)))
    return found


def some_rows(chooser, plan, ticks):
    """Rows of so many ticks, 0 at mute ones."""
    rows = [chooser.choice((0, 1, 5, MOST, chooser.randint(0, MOST), chooser.randint(0, 9))) for _ in range(ticks)]
    return [0 if plan.tick_at(number).mute else row for number, row in enumerate(rows)]


def sent(sender, rows):
    """What a sender makes of rows of all ticks."""
    found = []
    for row in rows:
        found.append(sender.send() if sender.plan.tick_at(sender.ticks).mute else sender.send(row))
    return found


class TestSender(Errors, unittest.TestCase):

    def test_packets(self):
        chooser = chosen(1)
        for turn in range(200):
            plan = some_plan(chooser)
            rows = some_rows(chooser, plan, 30)
            sender = Sender(plan)
            self.assertIs(sender.plan, plan)
            told = sent(sender, rows)
            self.assertEqual(told, packets_of(plan, rows))
            self.assertTrue(all(type(one) is Packet and type(one.parts) is tuple for one in told))
            self.assertEqual(sender.ticks, 30)

    def test_by_name(self):
        sender = Sender(plan=Plan.read("0 , 8 / mute 1"))
        self.assertEqual([sender.send(row=7), sender.send(row=None), sender.send(3)],
                         [Packet(0, (7, 0)), Packet(1, (7,)), Packet(2, (3, 0))])

    def test_no_plans(self):
        for value in NO_PLANS:
            self.assert_raised(BadStream("plan"), Sender, value)
            self.assert_raised(BadStream("plan"), Sender, plan=value)

    def test_what_is_no_row_makes_no_tick(self):
        sender = Sender(Plan.read("0 , 1 / mute 1"))
        for number in range(4):
            right = [None] if number & 1 else [0, 1, MOST, *[value for value in ANY if value == 0 and type(value) is int]]
            wrong = [0, 1, -1, *[value for value in ANY if value is not None]] if number & 1 else NO_ROWS
            for value in wrong:
                self.assert_raised(BadStream("row"), sender.send, value)
                self.assert_raised(BadStream("row"), sender.send, row=value)
                self.assertEqual(sender.ticks, number)
            for value in right:
                packet = sender.send(value)
                self.assertEqual((packet.tick, sender.ticks), (number, number + 1))
                sender.undo()
            sender.send(*[4 + number] * (1 - number % 2))
        self.assertEqual(sender.send(0).parts, (0, 0))
        self.assertEqual(sender.send(), Packet(5, (0,)))

    def test_a_row_is_missing(self):
        sender = Sender(copies(1))
        self.assert_raised(BadStream("row"), sender.send)
        self.assertEqual(sender.ticks, 0)

    def test_undo(self):
        chooser = chosen(2)
        for turn in range(60):
            plan = some_plan(chooser)
            sender, rows = Sender(plan), []
            for step in range(60):
                if rows and chooser.random() < 0.4:
                    self.assertIsNone(sender.undo())
                    rows.pop()
                else:
                    rows += some_rows(chooser, plan, len(rows) + 1)[-1:]
                    self.assertEqual(sent(sender, rows[-1:]), packets_of(plan, rows)[-1:])
                self.assertEqual(sender.ticks, len(rows))
            for _ in rows:
                sender.undo()
            for _ in range(2):
                self.assert_raised(Nothing(), sender.undo)
                self.assertEqual(sender.ticks, 0)
            again = some_rows(chooser, plan, 12)
            self.assertEqual(sent(sender, again), packets_of(plan, again))


class Beside(Errors):
    """Beside unittest.TestCase: whether a receiver stands as the slow one does."""

    def assert_stands(self, receiver, slow):
        self.assertEqual(receiver.now, slow.now)
        self.assertTrue(same(receiver.told, dict(sorted(slow.told.items()))))
        self.assertTrue(same(receiver.late, slow.late()))
        for most in range(receiver.delay + 1):
            known = receiver.known(most)
            self.assertIs(type(known), Space)
            self.assertEqual(known.rows, slow.known(most).rows)

    def assert_worths(self, receiver, slow, sums):
        for bits in sums:
            self.assertTrue(same(receiver.worth(bits), slow.worth(bits)), bits)


class TestReceiver(Beside, unittest.TestCase):

    def test_at_first(self):
        for delay in range(9):
            receiver = Receiver(delay=delay, plan=PAIR)
            self.assertIs(receiver.plan, PAIR)
            self.assertEqual((receiver.delay, receiver.now, receiver.told, receiver.late), (delay, -1, {}, ()))
            for most in range(delay + 1):
                self.assertEqual(receiver.known(most), Space.whole(most + 1))
            self.assertEqual({receiver.worth(bits) for bits in range(2 ** (delay + 1))}, {0})

    def test_in_order_with_losses(self):
        chooser = chosen(3)
        for turn in range(150):
            plan, delay = some_plan(chooser), chooser.randint(0, 8)
            packets = packets_of(plan, some_rows(chooser, plan, 40))
            receiver, slow = Receiver(plan, delay), SlowReceiver(plan, delay)
            for packet, letter in zip(packets, some_losses(chooser, 40, chooser.choice((0, 0.2, 0.5)))):
                if letter == "x":
                    self.assertIsNone(receiver.wait())
                    slow.wait()
                else:
                    self.assertTrue(same(receiver.hear(packet), slow.hear(packet)))
                self.assert_stands(receiver, slow)
            self.assert_worths(receiver, slow, range(2 ** (delay + 1)))

    def test_in_any_order(self):
        chooser = chosen(4)
        kinds = {"old": 0, "again": 0, "jump": 0, "told": 0, "later": 0}
        for turn in range(250):
            plan, delay = some_plan(chooser, mute=chooser.choice((0, 0.3))), chooser.randint(0, 8)
            packets = packets_of(plan, some_rows(chooser, plan, 60))
            spread = chooser.choice((1, 4, 9, 20))
            order = sorted(packets, key=lambda packet: packet.tick + chooser.uniform(0, spread))
            order = [packet for packet in order if chooser.random() < 0.75 for _ in range(chooser.choice((1, 1, 1, 2)))]
            receiver, slow, heard = Receiver(plan, delay), SlowReceiver(plan, delay), set()
            for packet in order:
                if chooser.random() < 0.05:
                    ticks = chooser.randint(1, 3)
                    receiver.wait(ticks)
                    slow.wait(ticks)
                kinds["old"] += packet.tick < slow.now - delay
                kinds["again"] += packet.tick in heard
                kinds["jump"] += packet.tick > slow.now + 1
                kinds["later"] += slow.now - delay <= packet.tick < slow.now
                heard.add(packet.tick)
                fresh = slow.hear(packet)
                kinds["told"] += len(fresh) > 1
                self.assertTrue(same(receiver.hear(packet), fresh))
                self.assert_stands(receiver, slow)
            self.assert_worths(receiver, slow, [chooser.randrange(2 ** (delay + 1)) for _ in range(20)])
        self.assertGreater(min(kinds.values()), 100, kinds)

    def test_all_orders_of_few_packets(self):
        for plan, delay in ((PAIR, 3), (SOUND, 2), (Plan.read("0 1 , 2"), 4), (LATE, 1)):
            rows = [0 if plan.tick_at(number).mute else 2 ** number for number in range(5)]
            for order in permutations(packets_of(plan, rows)):
                receiver, slow = Receiver(plan, delay), SlowReceiver(plan, delay)
                for packet in order:
                    self.assertEqual(receiver.hear(packet), slow.hear(packet))
                    self.assert_stands(receiver, slow)

    def test_older_rows_count_by_way_of_sums(self):
        # Each sum is that of a row and the one ahead of it; row 0 comes last, as far back as a packet is heard.
        plan = Plan.read("0 1 , 0 8 / 0 1")
        receiver, slow = Receiver(plan, 1), SlowReceiver(plan, 1)
        packets = packets_of(plan, [2 ** number for number in range(20)])
        for packet in packets[1::2]:
            self.assertEqual(receiver.hear(packet), slow.hear(packet))
            self.assert_stands(receiver, slow)
        chain = Plan.read("1 2 , 8 / 0 1")
        chooser = chosen(5)
        for delay in range(9):
            rows = some_rows(chooser, chain, 40)
            receiver, slow = Receiver(chain, delay), SlowReceiver(chain, delay)
            for packet in packets_of(chain, rows)[3:]:
                self.assertEqual(receiver.hear(packet), slow.hear(packet))
                self.assert_stands(receiver, slow)
            self.assertTrue(receiver.late)

    def test_known_too_late_is_never_told(self):
        plan = Plan.read("0 , 2")
        receiver = Receiver(plan, 1)
        packets = packets_of(plan, [5, 6, 7, 8, 9])
        receiver.wait()
        self.assertEqual(receiver.hear(packets[1]), ((1, 6),))
        self.assertEqual(receiver.hear(packets[2]), ((2, 7),))
        self.assertEqual((receiver.told, receiver.late), ({1: 6, 2: 7}, (0,)))
        # With a delay of 2 the row 0 comes in time.
        other = Receiver(plan, 2)
        other.wait()
        other.hear(packets[1])
        self.assertEqual(other.hear(packets[2]), ((0, 5), (2, 7)))
        self.assertEqual((other.told, other.late), ({0: 5, 1: 6, 2: 7}, ()))

    def test_too_old(self):
        for delay in range(9):
            packets = packets_of(PAIR, [3 * number + 1 for number in range(30)])
            receiver = Receiver(PAIR, delay)
            receiver.hear(packets[20])
            state = (receiver.now, receiver.told, receiver.late, receiver.known(delay).rows)
            for packet in packets[:20 - delay]:
                self.assertEqual(receiver.hear(packet), ())
                receiver += packet
                self.assertEqual((receiver.now, receiver.told, receiver.late, receiver.known(delay).rows), state)
                self.assert_raised(BadPacket("parts"), receiver.hear, Packet(packet.tick, (1,)))
            # Only the packet that was not too old can be taken back.
            receiver.undo()
            self.assertEqual(receiver.now, -1)
            self.assert_raised(Nothing(), receiver.undo)
            receiver.hear(packets[20])
            self.assertTrue(receiver.hear(packets[20 - delay]) or delay == 0)

    def test_jump(self):
        plan = Plan.read("0 , 1 / mute -")
        receiver = Receiver(plan, 2)
        self.assert_raised(BadPacket("jump"), receiver.hear, Packet(100, (1, 2)))
        self.assertEqual(receiver.now, -1)
        self.assertEqual(receiver.hear(Packet(99, ())), ())
        self.assertEqual(receiver.now, 99)
        self.assert_raised(BadPacket("jump"), receiver.hear, Packet(200, (1, 2)))
        self.assertEqual(receiver.hear(Packet(198, (1, 2))), ((198, 1),))
        self.assertEqual(receiver.hear(Packet(298, (4, 0))), ((298, 4),))
        self.assertEqual(receiver.late, tuple(tick for tick in range(0, 296, 2) if tick != 198))

    def test_waits(self):
        for ticks in (1, 2, 7, 99, 100):
            receiver, slow = Receiver(LATE, 1), SlowReceiver(LATE, 1)
            for _ in range(2):
                self.assertIsNone(receiver.wait(ticks))
                slow.wait(ticks)
                self.assert_stands(receiver, slow)
            receiver.wait(ticks=ticks)
            slow.wait(ticks)
            self.assert_stands(receiver, slow)
            for value in [0, -1, 101, 10 ** 39, *NO_INTEGERS]:
                self.assert_raised(BadCount(value), receiver.wait, value)
                self.assert_raised(BadCount(value), receiver.wait, ticks=value)
            self.assert_stands(receiver, slow)
            for left in range(3):
                receiver.undo()
                self.assertEqual(receiver.now, ticks * (2 - left) - 1)
            self.assert_raised(Nothing(), receiver.undo)

    def test_dicts_belong_to_the_caller(self):
        receiver = Receiver(PAIR, 3)
        receiver.hear(Packet(0, (5, 0)))
        told = receiver.told
        told[7] = 8
        del told[0]
        self.assertEqual(receiver.told, {0: 5})
        self.assertIsNot(receiver.told, receiver.told)

    def test_told_is_ascending(self):
        receiver = Receiver(Plan.read("0"), 8)
        for tick in (5, 3, 4, 1):
            receiver.hear(Packet(tick, (tick + 10,)))
        self.assertEqual(list(receiver.told.items()), [(1, 11), (3, 13), (4, 14), (5, 15)])

    def test_in_place(self):
        first = receiver = Receiver(PAIR, 3)
        receiver += Packet(1, (6, 5))
        self.assertIs(receiver, first)
        self.assertEqual(receiver.told, {0: 5, 1: 6})
        for value in ANY:
            if not isinstance(value, Packet):
                with self.assertRaises(BadPacket):
                    receiver += value
        self.assertIs(receiver, first)
        receiver.undo()
        self.assert_raised(Nothing(), receiver.undo)

    def test_equal_to_itself_alone(self):
        one, other = Receiver(PAIR, 3), Receiver(PAIR, 3)
        self.assertTrue(one == one and one != other and bool(one))
        self.assertTrue(Sender(PAIR) != Sender(PAIR) and bool(Sender(PAIR)))


class TestReceiverErrors(Beside, unittest.TestCase):

    def test_no_plan_and_no_delay(self):
        wrongs = [("plan", NO_PLANS, lambda value: BadStream("plan")),
                  ("delay", NO_DELAYS, lambda value: BadStream("delay"))]
        self.assert_refused(Receiver, {"plan": PAIR, "delay": 3}, wrongs)

    def test_packets(self):
        receiver = Receiver(Plan.read("0 , 1 / mute -"), 3)
        receiver.wait(10)
        for value in ANY:
            if not isinstance(value, Packet):
                self.assert_raised(BadPacket("packet"), receiver.hear, value)
                self.assert_raised(BadPacket("packet"), receiver.hear, packet=value)
        for tick in [-1, -(10 ** 39), *NO_INTEGERS]:
            for parts in ((1, 2), (1,), None):
                self.assert_raised(BadPacket("tick"), receiver.hear, Packet(tick, parts))
        bad = [*[value for value in ANY if not isinstance(value, tuple)], (1,), (1, 2, 3), (), [1, 2], (1, -1),
               (True, 1), (1, False), (1, None), (1, "2"), ((1, 2),), ("12",), {0: 1, 1: 2}]
        for parts in bad:
            for tick in (0, 4, 8, 10, 200, 10 ** 39 + 1 - 1):
                self.assert_raised(BadPacket("parts"), receiver.hear, Packet(tick, parts))
            if parts != ():
                for tick in (1, 9, 10 ** 39 + 1):
                    self.assert_raised(BadPacket("parts"), receiver.hear, Packet(tick, parts))
        for tick in (110, 112, 10 ** 39):
            self.assert_raised(BadPacket("jump"), receiver.hear, Packet(tick, (1, 2)))
        self.assertEqual((receiver.now, receiver.told), (9, {}))
        receiver.undo()
        self.assert_raised(Nothing(), receiver.undo)

    def test_known_and_worth(self):
        for delay in range(9):
            receiver = Receiver(PAIR, delay)
            receiver.hear(Packet(3, (9, 5)))
            for most in [delay + 1, *NO_DELAYS]:
                self.assert_raised(BadDelay(most), receiver.known, most)
                self.assert_raised(BadDelay(most), receiver.known, most=most)
            for bits in [-1, 2 ** (delay + 1), 2 ** 16, 10 ** 39, *NO_INTEGERS]:
                self.assert_raised(BadSpace("bits"), receiver.worth, bits)
                self.assert_raised(BadSpace("bits"), receiver.worth, bits=bits)
            self.assertEqual(receiver.worth(1), 9)
            self.assertEqual(receiver.worth(2 ** (delay + 1) - 1 & 6), 5 if delay >= 2 else None if delay else 0)
            self.assertEqual(receiver.known(most=delay).rows, Space(*[1, 6, *[2 ** age for age in range(4, 9)]]).below(
                delay + 1).rows)


class TestBack(Beside, unittest.TestCase):

    def steps(self, chooser, plan, ticks):
        """Hears and waits in any order, and what is refused or too old."""
        for packet in packets_of(plan, some_rows(chooser, plan, ticks)):
            kind = chooser.random()
            if kind < 0.7:
                yield packet
            elif kind < 0.85:
                yield chooser.randint(1, 3)
            if chooser.random() < 0.1:
                yield packet

    def apply(self, stands, step):
        """Does a step with a Receiver or the slow one."""
        if isinstance(step, int):
            stands.wait(step)
        else:
            stands.hear(step)

    def test_undo_step_by_step(self):
        chooser = chosen(6)
        for turn in range(60):
            plan, delay = some_plan(chooser), chooser.randint(0, 8)
            receiver, slow, past = Receiver(plan, delay), SlowReceiver(plan, delay), []
            for step in self.steps(chooser, plan, 25):
                if isinstance(step, int) or step.tick >= slow.now - delay:
                    past.append(slow.copied())
                self.apply(receiver, step)
                self.apply(slow, step)
                if past and chooser.random() < 0.2:
                    self.assertIsNone(receiver.undo())
                    slow = past.pop()
                self.assert_stands(receiver, slow)
            while past:
                receiver.undo()
                self.assert_stands(receiver, past.pop())
            for _ in range(2):
                self.assert_raised(Nothing(), receiver.undo)
            self.assert_stands(receiver, SlowReceiver(plan, delay))

    def test_trials_and_twins(self):
        chooser = chosen(7)
        for turn in range(60):
            plan, delay = some_plan(chooser), chooser.randint(0, 8)
            receiver, slow = Receiver(plan, delay), SlowReceiver(plan, delay)
            steps = list(self.steps(chooser, plan, 30))
            for at, step in enumerate(steps):
                kept = slow.copied()
                if chooser.random() < 0.3:
                    with receiver.trial() as same_one:
                        self.assertIs(same_one, receiver)
                        for later in steps[at:at + 4]:
                            self.apply(receiver, later)
                            self.apply(slow, later)
                        inner = slow.copied()
                        with receiver.trial():
                            receiver.wait(9)
                            while receiver.now >= 0:
                                receiver.undo()
                        self.assert_stands(receiver, inner)
                    self.assert_stands(receiver, kept)
                    slow = kept.copied()
                twin, slow_twin = receiver.twin(), slow.copied()
                self.apply(receiver, step)
                self.apply(slow, step)
                self.assert_stands(twin, kept)
                twin.wait(2)
                slow_twin.wait(2)
                self.assert_stands(twin, slow_twin)
                self.assert_stands(receiver, slow)

    def test_a_twin_has_the_same_to_take_back(self):
        receiver = Receiver(PAIR, 3)
        receiver.wait(2)
        receiver.hear(Packet(2, (1, 2)))
        twin = receiver.twin()
        self.assertIs(type(twin), Receiver)
        self.assertIs(twin.plan, PAIR)
        self.assertEqual((twin.delay, twin.now, twin.told), (3, 2, {2: 1}))
        twin.undo()
        twin.undo()
        self.assert_raised(Nothing(), twin.undo)
        self.assertEqual((receiver.now, receiver.told), (2, {2: 1}))
        receiver.undo()
        self.assertEqual((receiver.now, twin.now), (1, -1))

    def test_an_error_leaves_a_trial(self):
        receiver = Receiver(PAIR, 3)
        receiver.hear(Packet(0, (5, 0)))
        for wanted, fails in ((BadCount(0), lambda same_one: same_one.wait(0)),
                              (BadPacket("packet"), lambda same_one: same_one.hear(None)),
                              (ZeroDivisionError("x"), lambda same_one: 1 // 0)):
            def work(same_one):
                same_one.wait(7)
                with same_one.trial():
                    same_one.undo()
                    same_one.undo()
                    fails(same_one)
            with self.assertRaises(type(wanted)):
                receiver.tried(work)
            self.assertEqual((receiver.now, receiver.told), (0, {0: 5}))
            with self.assertRaises(type(wanted)):
                with receiver.trial():
                    work(receiver)
            self.assertEqual((receiver.now, receiver.told), (0, {0: 5}))
        receiver.undo()
        self.assert_raised(Nothing(), receiver.undo)

    def test_tried(self):
        receiver = Receiver(PAIR, 3)
        receiver.wait(3)
        for value in ANY:
            self.assertIs(receiver.tried(lambda same_one: value), value)
        self.assertEqual(receiver.tried(work=lambda same_one: (same_one is receiver, same_one.wait(5), same_one.now)),
                         (True, None, 7))
        self.assertEqual(receiver.tried(lambda one: one.tried(lambda two: (two.undo(), two.now)) + (one.now,)),
                         (None, -1, 2))
        self.assertEqual(receiver.now, 2)

    def test_a_trial_begins_where_its_block_begins(self):
        receiver = Receiver(PAIR, 3)
        trial = receiver.trial()
        receiver.wait(4)
        with trial:
            receiver.wait(5)
            with trial:
                receiver.wait(6)
            self.assertEqual(receiver.now, 8)
        self.assertEqual(receiver.now, 3)
        receiver.wait()
        with trial:
            receiver.undo()
        self.assertEqual(receiver.now, 4)


class TestPlay(Beside, unittest.TestCase):

    def test_as_packets_one_by_one(self):
        chooser = chosen(8)
        for turn in range(150):
            plan, delay = some_plan(chooser), chooser.randint(0, 8)
            losses = some_losses(chooser, chooser.choice((0, 1, 5, 30)), chooser.choice((0, 0.2, 0.6, 1)))
            loud = sum(not plan.tick_at(number).mute for number in range(len(losses)))
            rows = [chooser.randint(0, MOST) for _ in range(chooser.choice((0, loud // 2, loud, loud + 3)))]
            sender, receiver, slow, used = Sender(plan), Receiver(plan, delay), SlowReceiver(plan, delay), 0
            for number, letter in enumerate(losses):
                if plan.tick_at(number).mute:
                    packet = sender.send()
                else:
                    packet = sender.send(rows[used] if used < len(rows) else 0)
                    used += 1
                for one in (receiver, slow):
                    one.wait() if letter == "x" else one.hear(packet)
            for told in (play(plan, rows, losses, delay), play(plan, tuple(rows), losses, delay),
                         play(delay=delay, losses=losses, rows=rows, plan=plan)):
                self.assertIs(type(told), Receiver)
                self.assertIs(told.plan, plan)
                self.assert_stands(told, slow)
                self.assert_worths(told, slow, range(0, 2 ** (delay + 1), 3))
                for _ in losses:
                    told.undo()
                self.assert_raised(Nothing(), told.undo)

    def test_numbers_of_ticks(self):
        for ticks, letter in ((400, "."), (400, "x")):
            told = play(PAIR, [1] * 500, letter * ticks, 3)
            self.assertEqual((told.now, len(told.told)), (399, 400 if letter == "." else 0))
            self.assertEqual(len(told.late), 0 if letter == "." else 396)
            self.assert_raised(BadLosses(letter * 401), play, PAIR, [], letter * 401, 3)

    def test_rows_are_not_changed(self):
        rows = [1, 2, 3]
        play(PAIR, rows, "....", 3)
        self.assertEqual(rows, [1, 2, 3])

    def test_errors(self):
        rows = [value for value in ANY if not isinstance(value, (list, tuple))] + [{}, {0: 1}, "123", [1, None]]
        rows += [[1, 2, wrong] for wrong in NO_ROWS] + [(wrong, 1) for wrong in NO_ROWS]
        losses = [value for value in ANY if not isinstance(value, str)] + ["x" * 401, "." * 401, "-", "X", ".y", "..\n"]
        wrongs = [("plan", NO_PLANS, lambda value: BadStream("plan")), ("rows", rows, lambda value: BadStream("rows")),
                  ("losses", losses, BadLosses), ("delay", NO_DELAYS, lambda value: BadStream("delay"))]
        self.assert_refused(play, {"plan": SOUND, "rows": [1, 2], "losses": "..x", "delay": 2}, wrongs)
        # Rows that play no part must be rows all the same.
        self.assert_raised(BadStream("rows"), play, SOUND, [1, -1], ".", 2)

    def test_what_is_known_is_the_space_of_the_standing(self):
        free = Machine((0, 0))
        plans = [PAIR, SOUND, LATE, copies(2), copies(1, 3), Plan.read("0 1 / 0 , 2 / mute 1 3"), Plan.read("1 , 0 2")]
        many = 0
        for plan in plans:
            for delay in (0, 1, 2, 3, 5):
                for losses in all_texts(7):
                    states = states_along([plan], free, delay, losses)
                    lates = [at for at, state in enumerate(states) if is_late(state, delay)]
                    told = play(plan, [], losses[:lates[0]] if lates else losses, delay)
                    if lates:
                        self.assertEqual(told.late, ())
                        told.wait()
                        self.assertEqual(told.late, (lates[0] - 1 - delay,))
                    else:
                        many += 1
                        self.assertEqual(told.late, ())
                        space = standing_behind(plan, free, delay, losses).space
                        self.assertEqual(told.known(delay), space)
        self.assertGreater(many, 300)


class TestTwoStreams(Beside, unittest.TestCase):

    def test_late_papers(self):
        plans = [PAIR, SOUND, LATE, copies(2), copies(1, 3), Plan.read("0"), Plan.read("0 1 / 0 , 2 / mute 1 3")]
        rules = [Total(2), Burst(2, 1), Window(2, 3), Machine((0, 0)), Burst(1, 1)]
        many = 0
        for plan in plans:
            for rule in rules:
                for delay in (0, 1, 2, 4):
                    paper = judge(plan, rule, delay)
                    if paper:
                        continue
                    many += 1
                    self.check_paper(plan, delay, paper)
        self.assertGreater(many, 50)

    def check_paper(self, plan, delay, paper):
        at = len(paper.losses) - 1 - delay
        streams = [sent(Sender(plan), rows) for rows in ([0] * len(paper.losses), paper.other)]
        for first, second, letter in zip(*streams, paper.losses):
            self.assertTrue(letter == "x" or first == second)
        for packets in streams:
            receiver = Receiver(plan, delay)
            for packet, letter in zip(packets, paper.losses):
                receiver.wait() if letter == "x" else receiver.hear(packet)
            self.assertNotIn(at, receiver.told)
            receiver.wait()
            self.assertIn(at, receiver.late)


if __name__ == "__main__":
    unittest.main()
