"""Texts of settings, packets and verdicts, and their readers."""

import unittest
from itertools import product

from laterepair.errors import BadDelay, BadPlan, BadRule, BadStream, BadText, RepairError, TooMany
from laterepair.judged import InTime, Late, judge
from laterepair.plans import Plan, copies, parity
from laterepair.reader import read_packets, read_setting, read_verdict
from laterepair.rules import Burst, Machine, Rule, Total, Window
from laterepair.spaces import Space
from laterepair.standings import Standing
from laterepair.streams import Packet, Sender
from laterepair.texts import packets_text, setting_text, verdict_text
from tests.helpers import ANY, NO_DELAYS, NO_INTEGERS, NO_PLANS, NO_RULES, NO_STRINGS, Errors, changed_words, same
from tests.helpers import wrong_in
from tests.live import chosen, some_losses, some_plan

RULES = [Total(0), Burst(2, 3), Window(1, 3), Machine((0, 1), (0, None)), Burst(2, 1) & (Total(2) | Window(1, 2))]
OTHERS = ["", "-", "0", "1", "9", "01", "x", ".", "plan", "in", "time", "late", "mute", "/", ",", ":", "(", "1001", "3 5"]


def number_word(word, most):
    """Whether this is an integer from 0 to most as `str` writes it."""
    return word in [str(number) for number in range(most + 1)]


def wrong_delay(words):
    if len(words) == 1 or not number_word(words[1], 8):
        return 1
    return 2 if len(words) > 2 else None


def wrong_setting(text):
    """The line and the word that cannot stand in the text of a setting, None if all can."""
    lines = [line.split(" ") for line in text.split("\n")]
    for at, first in enumerate(("plan", "rule", "delay")):
        if at >= len(lines) or lines[at][0] != first:
            return (at, 0)
        wrong = (wrong_in(lines[at], 1, (Plan, Rule)[at].read) if at < 2 else wrong_delay(lines[at]))
        if wrong is not None:
            return (at, wrong)
    return (3, 0) if len(lines) > 3 else None


def wrong_packets(text):
    lines = [line.split(" ") for line in text.split("\n")]
    if lines[0][0] == "-":
        return (0, 1) if len(lines[0]) > 1 else (1, 0) if len(lines) > 1 else None
    for at, words in enumerate(lines):
        wrong = wrong_in(words, 0, Packet.read)
        if wrong is not None:
            return (at, wrong)
    return None


def wrong_standing(words):
    for at in (0, 1):
        if len(words) == at or not number_word(words[at], 1000):
            return at
    return wrong_in(words, 2, Space.read)


def wrong_late(lines):
    if len(lines) < 2 or lines[1][0] == "" or lines[1][0].strip(".x"):
        return (1, 0)
    if len(lines[1]) > 1:
        return (1, 1)
    if len(lines) < 3:
        return (2, 0)
    for at in range(len(lines[1][0])):
        if at == len(lines[2]) or lines[2][at] not in ("0", "1"):
            return (2, at)
    if len(lines[2]) > len(lines[1][0]):
        return (2, len(lines[1][0]))
    return (3, 0) if len(lines) > 3 else None


def wrong_verdict(text):
    lines = [line.split(" ") for line in text.split("\n")]
    first = ["in", "time"] if lines[0][0] == "in" else ["late"]
    for at, word in enumerate(first):
        if at == len(lines[0]) or lines[0][at] != word:
            return (0, at)
    if len(lines[0]) > len(first):
        return (0, len(first))
    if first == ["late"]:
        return wrong_late(lines)
    for at, words in enumerate(lines[1:], 1):
        wrong = wrong_standing(words)
        if wrong is not None:
            return (at, wrong)
    return None


def changed_texts(text):
    """Texts near this one: words or lines left out, put in, doubled, changed or exchanged."""
    lines = text.split("\n")
    for at, line in enumerate(lines):
        for words in changed_words(line.split(" "), OTHERS):
            yield "\n".join(lines[:at] + [" ".join(words)] + lines[at + 1:])
        yield "\n".join(lines[:at] + lines[at + 1:])
        yield "\n".join(lines[:at] + [line, line] + lines[at + 1:])
        yield "\n".join(lines[:at])
        yield "\n".join(lines[:at] + lines[at:][::-1])
        for other in ("", "-", "in time", "late", "delay 1", "0 0 1", "0 : 1", " "):
            yield "\n".join(lines[:at] + [other] + lines[at:])
            yield "\n".join(lines[:at] + [other] + lines[at + 1:])
    yield text + "\n"
    yield text + "\n\n"
    yield "\n" + text
    yield text + " "
    yield " " + text
    yield text.replace(" ", "  ", 1)
    yield text.replace("\n", " ", 1)
    yield text.replace("\n", "\n\n", 1)
    yield text.upper()


class Near(Errors):
    """Beside unittest.TestCase: whether a reader refuses and reads texts as an own reader tells."""

    def assert_near(self, read, write, wrong, texts):
        seen = {True: 0, False: 0}
        for text in texts:
            for near in changed_texts(text):
                told = wrong(near)
                seen[told is None] += 1
                if told is not None:
                    self.assert_raised(BadText(*told), read, near)
                    continue
                try:
                    value = read(near)
                except RepairError as error:
                    # All words can stand, so only the rule can be refused.
                    self.assertIs(read, read_setting)
                    rule = near.split("\n")[1][5:]
                    self.assert_raised(error, Rule.read, rule)
                else:
                    self.assertEqual(write(value), near)
        self.assertGreater(min(seen.values()), 50)


class TestSettings(Near, unittest.TestCase):

    def test_texts_line_by_line(self):
        chooser = chosen(31)
        for plan in [some_plan(chooser) for _ in range(60)]:
            for rule, delay in ((chooser.choice(RULES), delay) for delay in range(9)):
                text = setting_text(plan, rule, delay)
                self.assertEqual(text.split("\n"), [f"plan {plan}", f"rule {rule}", f"delay {delay}"])
                self.assertEqual(text, setting_text(delay=delay, rule=rule, plan=plan))
                told = read_setting(text)
                self.assertIs(type(told), tuple)
                self.assertEqual([str(part) for part in told], [str(plan), str(rule), str(delay)])
                self.assertTrue(same(told, (plan, told[1], delay)) and told[1] == rule)
                self.assertEqual(read_setting(text=text)[0], plan)

    def test_errors(self):
        wrongs = [("plan", NO_PLANS, lambda value: BadPlan("plan")), ("rule", NO_RULES, lambda value: BadRule("rule")),
                  ("delay", NO_DELAYS, BadDelay)]
        self.assert_refused(setting_text, {"plan": copies(1), "rule": RULES[1], "delay": 3}, wrongs)

    def test_near_texts(self):
        texts = [setting_text(plan, rule, 3) for plan, rule in zip(
            (copies(1), parity(2), Plan.read("0 , 1 2 / -"), Plan.read("mute - / 0"), copies(3)), RULES)]
        self.assert_near(read_setting, lambda told: setting_text(*told), wrong_setting, texts)

    def test_all_words_come_first(self):
        page = "plan 0 , 1\nrule {}\ndelay {}"
        for rule, error in (("machine 0 1", BadRule(0)), ("machine 0 - / 2 0", BadRule(1)),
                            ("( burst 8 12 & ( total 12 & window 2 6 ) )", TooMany("places", 40)),
                            ("machine " + " / ".join(["0 0"] * 41), TooMany("pairs", 40))):
            self.assert_raised(error, read_setting, page.format(rule, 1))
            self.assert_raised(BadText(2, 1), read_setting, page.format(rule, 9))
            self.assert_raised(BadText(2, 2), read_setting, page.format(rule, "1 1"))
            self.assert_raised(BadText(3, 0), read_setting, page.format(rule, 1) + "\n")
            self.assert_raised(BadText(2, 0), read_setting, page.format(rule, 1).rsplit("\n", 1)[0])
            self.assert_raised(BadText(0, 3), read_setting, page.format(rule, 1).replace(", 1", ", 9"))

    def test_what_is_no_string(self):
        for read, value in product((read_setting, read_packets, read_verdict), [*NO_STRINGS, b"-", ["-"]]):
            self.assert_raised(BadText(0, 0), read, value)
            self.assert_raised(BadText(0, 0), read, text=value)

    def test_short_texts(self):
        for text, where in (("", (0, 0)), ("plan", (0, 1)), ("plan 0", (1, 0)), ("plan 0\n", (1, 0)),
                            ("plan 0\nrule", (1, 1)), ("plan 0\nrule total 1", (2, 0)), ("\n\n", (0, 0)),
                            ("plan 0\nrule total 1\ndelay", (2, 1)), ("plan 0\nrule total 1\ndelay 1\n\n", (3, 0))):
            self.assert_raised(BadText(*where), read_setting, text)

    def test_deep_rules_are_written_but_not_read(self):
        rule = Total(1)
        for _ in range(21):
            rule = rule & Total(1)
        text = setting_text(copies(1), rule, 1)
        self.assert_raised(BadText(1, 21), read_setting, text)


class TestPackets(Near, unittest.TestCase):

    def test_texts_line_by_line(self):
        chooser = chosen(32)
        for many in range(12):
            for turn in range(10):
                packets = [Packet(chooser.choice((0, 7, 10 ** 39)), tuple(
                    chooser.choice((0, 5, 10 ** 30)) for _ in range(chooser.randrange(4)))) for _ in range(many)]
                text = packets_text(packets)
                self.assertEqual(text, packets_text(packets=tuple(packets)))
                self.assertEqual(text.split("\n"), [str(packet) for packet in packets] or ["-"])
                self.assertTrue(same(read_packets(text), tuple(packets)))
                self.assertEqual(read_packets(text=text), tuple(packets))

    def test_no_packets(self):
        self.assertEqual([packets_text([]), packets_text(()), read_packets("-")], ["-", "-", ()])
        for text, where in (("- -", (0, 1)), ("-\n-", (1, 0)), ("-\n", (1, 0)), ("- 1\n-", (0, 1)), ("", (0, 0)),
                            ("0 : 1\n-", (1, 0)), ("0 : -\n-", (1, 0)), ("0 : 1\n", (1, 0)), ("-\n0 : 1", (1, 0)),
                            (" -", (0, 0)), ("- ", (0, 1)), ("--", (0, 0)), ("\n-", (0, 0))):
            self.assert_raised(BadText(*where), read_packets, text)

    def test_near_texts(self):
        texts = ["-", "7 : 5 0", "0 : -\n1 : 2", "0 : 1 0\n1 : 2 3\n2 : 4 5", f"{10 ** 39} : {10 ** 39}"]
        self.assert_near(read_packets, packets_text, wrong_packets, texts)

    def test_errors(self):
        good = Packet(0, (1,))
        bad = [value for value in ANY if not isinstance(value, (list, tuple))] + [{}, {0: good}, good, "-"]
        wrong = [value for value in ANY if not isinstance(value, Packet)]
        wrong += [Packet(tick, (1,)) for tick in [-1, *NO_INTEGERS]]
        wrong += [Packet(0, value) for value in ANY if value != () and not same(value, (0,)) and not same(value, (0, 1))]
        wrong += [Packet(0, (1, part)) for part in [-1, *NO_INTEGERS]] + [Packet(0, [1])]
        bad += [[one] for one in wrong] + [(good, one) for one in wrong] + [[one, good] for one in wrong]
        for value in bad:
            self.assert_raised(BadStream("packets"), packets_text, value)
            self.assert_raised(BadStream("packets"), packets_text, packets=value)

    def test_streams(self):
        chooser = chosen(33)
        for turn in range(40):
            plan = some_plan(chooser)
            sender = Sender(plan)
            packets = []
            for number in range(20):
                packets.append(sender.send() if plan.tick_at(number).mute else sender.send(chooser.randint(0, 10 ** 30)))
            self.assertEqual(read_packets(packets_text(packets)), tuple(packets))


class TestVerdicts(Near, unittest.TestCase):

    def test_verdicts_of_judge(self):
        chooser = chosen(34)
        seen = {True: 0, False: 0}
        for turn in range(120):
            plan, rule, delay = some_plan(chooser, phases=chooser.choice((1, 2))), chooser.choice(RULES), chooser.randint(0, 4)
            verdict = judge(plan, rule, delay, 5000)
            seen[bool(verdict)] += 1
            text = verdict_text(verdict)
            if verdict:
                lines = ["in time"] + [f"{one.phase} {one.place} {one.space}" for one in verdict.table]
            else:
                lines = ["late", verdict.losses, " ".join(str(row) for row in verdict.other)]
            self.assertEqual(text.split("\n"), lines)
            told = read_verdict(text)
            self.assertIs(type(told), type(verdict))
            self.assertEqual(told, verdict)
            self.assertEqual(verdict_text(verdict=read_verdict(text=text)), text)
        self.assertGreater(min(seen.values()), 20)

    def test_other_tables_and_streams(self):
        for table in ((), (Standing(1000, 1000, Space()),), (Standing(0, 0, Space(65535)),) * 3,
                      (Standing(2, 1, Space.whole(16)), Standing(0, 5, Space(3, 4)))):
            text = verdict_text(InTime(table))
            told = read_verdict(text)
            self.assertEqual(told, InTime(table))
            self.assertTrue(isinstance(told.table, tuple) and all(type(one) is Standing for one in told.table))
        self.assertEqual(verdict_text(InTime(())), "in time")
        self.assertEqual(verdict_text(InTime((Standing(1000, 0, Space()),))), "in time\n1000 0 -")
        chooser = chosen(35)
        for ticks in (1, 2, 5, 3000):
            losses = some_losses(chooser, ticks, 0.5)
            rows = tuple(chooser.choice((0, 1)) for _ in losses)
            told = read_verdict(verdict_text(Late(losses, rows)))
            self.assertTrue(same([told.losses, told.other], [losses, rows]))

    def test_near_texts(self):
        texts = ["in time", "in time\n0 0 1 2\n0 1 2", "in time\n3 1000 -", "in time\n0 0 3 5\n1 0 -\n0 7 1 2 4",
                 "late\nx\n1", "late\n.x.\n0 1 0", "late\nxx..\n1 0 1 1"]
        self.assert_near(read_verdict, verdict_text, wrong_verdict, texts)

    def test_named_texts(self):
        for text, where in (
                ("", (0, 0)), ("in", (0, 1)), ("in  time", (0, 1)), ("in time ", (0, 2)), ("in time\n", (1, 0)),
                ("late", (1, 0)), ("late\n", (1, 0)), ("late\n-", (1, 0)), ("late\nx", (2, 0)), ("late\nx\n", (2, 0)),
                ("late\nx\n1\n", (3, 0)), ("late\nx\n1\n1", (3, 0)), ("late\nx\n1 1", (2, 1)), ("late\nx\n1 7", (2, 1)),
                ("late\nxx\n1 2", (2, 1)), ("late\nxx\n01 1", (2, 0)), ("late x\n1", (0, 1)), ("late\nx .\n1 1", (1, 1)),
                ("in time\n1001 0 -", (1, 0)), ("in time\n0 1001 -", (1, 1)), ("in time\n0 0", (1, 2)),
                ("in time\n0 0 0", (1, 2)), ("in time\n0 0 3 6", (1, 3)), ("in time\n0 0 - 1", (1, 3)),
                ("in time\n0 0 1\n0 0 65536", (2, 2)), ("in time\n0 0 2 1", (1, 3)), ("late\nX\n1", (1, 0))):
            self.assert_raised(BadText(*where), read_verdict, text)

    def test_errors(self):
        space = Space(1)
        tables = [value for value in ANY if not isinstance(value, tuple)] + [[Standing(0, 0, space)]]
        parts = [-1, 1001, 10 ** 39, *NO_INTEGERS]
        ones = [value for value in ANY if not isinstance(value, Standing)]
        ones += [Standing(value, 0, space) for value in parts] + [Standing(0, value, space) for value in parts]
        ones += [Standing(0, 0, value) for value in ANY if not isinstance(value, Space)]
        tables += [(one,) for one in ones] + [(Standing(0, 0, space), one) for one in ones]
        bad = [value for value in ANY if not isinstance(value, (InTime, Late))] + [InTime(table) for table in tables]
        losses = [value for value in ANY if value not in (".", "x") and value != ".x"] + ["xy", "X", "-", ""]
        bad += [Late(value, (1,)) for value in losses] + [Late("", ())]
        bad += [Late("x", value) for value in ANY if not same(value, (0,))]
        bad += [Late("x", value) for value in ((1, 0), (), [1], (True,), (2,), (-1,), (None,), ("1",))]
        bad += [Late("x.", value) for value in ((1, 0, 0), (1,), [1, 0], (1, False), (1, 2), (2, 1))]
        for value in bad:
            self.assert_raised(BadStream("verdict"), verdict_text, value)
            self.assert_raised(BadStream("verdict"), verdict_text, verdict=value)


if __name__ == "__main__":
    unittest.main()
