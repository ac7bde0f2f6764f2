"""Rules told back from losses that were seen."""

import random
import unittest
from itertools import product

from laterepair.checks import is_losses
from laterepair.errors import BadCount, BadLosses, TooMany
from laterepair.rules import Burst, Machine, Total, Window
from laterepair.seen import tight_burst, tight_machine, tight_total, tight_window
from tests.helpers import ANY, Errors, texts_up_to

TEXTS = texts_up_to(5)
LONG = [
    "x" * 8, "x" * 9, "xx" + "." * 12 + "x", "xx" + "." * 13 + "x", "x" + "." * 40 + "x", "x" * 12, "x" * 13,
    "x." * 12, "x." * 13, "." * 50, "." * 20 + "x.x" + "." * 20, "xxx....xx.xxx", "x" * 8 + "." * 11 + "x" * 8,
    "x" * 9 + "." + "x", "xx..xx...xx",
]
NO_LOSSES = [value for value in ANY if not is_losses(value)] + ["xy", "x ", "x\n", "X", b"x", "xo."]
WRONG_WIDTHS = [0, -1, 7, 10 ** 39, *[value for value in ANY if type(value) is not int]]


def seen_samples():
    """Some tuples of losses: none, each one alone, and several ones."""
    chooser = random.Random(7)
    samples = [(), ("",), ("", ""), *[(text,) for text in TEXTS + LONG]]
    for _ in range(400):
        samples.append(tuple(chooser.choice(TEXTS + LONG) for _ in range(chooser.randint(2, 4))))
    return samples


SAMPLES = seen_samples()
BURSTS = [Burst(most, gap) for most in range(1, 9) for gap in range(12, 0, -1)]
TOTALS = [Total(most) for most in range(13)]


def lets_all(rule, losses):
    return all(text in rule for text in losses)


class TestTight(Errors, unittest.TestCase):

    def assert_first(self, found, made, rules, losses):
        """Whether this is the first one of the rules that lets all losses, and made as it tells."""
        fitting = [rule for rule in rules if lets_all(rule, losses)]
        self.assertEqual(str(found), str(fitting[0]) if fitting else "None", losses)
        self.assertIs(type(found), made if fitting else type(None))

    def test_burst(self):
        for losses in SAMPLES:
            rules = BURSTS if any("x" in text for text in losses) else []
            self.assert_first(tight_burst(*losses), Burst, rules, losses)

    def test_burst_at_its_bounds(self):
        self.assertIsNone(tight_burst())
        self.assertIsNone(tight_burst("", "...."))
        self.assertEqual(str(tight_burst("x" * 8)), "burst 8 12")
        self.assertIsNone(tight_burst("x" * 9))
        self.assertIsNone(tight_burst("x", "x" * 9, "x"))
        self.assertEqual(str(tight_burst("x" + "." * 13 + "x")), "burst 1 12")
        self.assertEqual(str(tight_burst("x" + "." * 11 + "x")), "burst 1 11")
        self.assertEqual(str(tight_burst(".xx....x", "x...xx")), "burst 2 3")
        self.assertEqual(str(tight_burst("..x", "x..")), "burst 1 12")

    def test_window(self):
        for losses in SAMPLES:
            for width in range(1, 7):
                windows = [Window(most, width) for most in range(7)]
                self.assert_first(tight_window(width, *losses), Window, windows, losses)
        self.assertEqual(str(tight_window(4)), "window 0 4")
        self.assertEqual(str(tight_window(6, "xx")), "window 2 6")
        self.assertEqual(str(tight_window(width=3)), "window 0 3")

    def test_total(self):
        for losses in SAMPLES:
            self.assert_first(tight_total(*losses), Total, TOTALS, losses)
        self.assertEqual(str(tight_total("x" * 12)), "total 12")
        self.assertEqual(str(tight_total("x" * 12, ".".join("x" * 12))), "total 12")
        self.assertIsNone(tight_total("x" * 13))
        self.assertIsNone(tight_total("", "x." * 13, "x"))

    def test_another_order(self):
        for losses in SAMPLES[-200:]:
            for call in (tight_burst, tight_total, lambda *some: tight_window(3, *some)):
                self.assertEqual(str(call(*losses)), str(call(*losses[::-1])))
                self.assertEqual(str(call(*losses)), str(call(*losses, *losses)))

    def test_wrong_losses(self):
        for value in NO_LOSSES:
            for losses, wrong in (((value,), value), (("x", value), value), (("", value, "x"), value),
                                  (("x" * 13, value, "q"), value), (("q", value), "q")):
                for call in (tight_burst, tight_total, tight_machine):
                    self.assert_raised(BadLosses(wrong), call, *losses)
                for width in range(1, 7):
                    self.assert_raised(BadLosses(wrong), tight_window, width, *losses)

    def test_wrong_widths(self):
        for value in WRONG_WIDTHS:
            self.assert_raised(BadCount(value), tight_window, value)
            self.assert_raised(BadCount(value), tight_window, width=value)
            self.assert_raised(BadCount(value), tight_window, value, "x.x")
            self.assert_raised(BadCount(value), tight_window, value, "x.x", "y", None)


class TestMachine(Errors, unittest.TestCase):

    def assert_lets_just(self, losses):
        rule = tight_machine(*losses)
        self.assertIs(type(rule), Machine)
        self.assertEqual(rule.pairs, rule.ways)
        let = {""}
        for text in losses:
            let |= {text[:many] for many in range(len(text) + 1)}
        for text in texts_up_to(7):
            wanted = any(text[:len(part)] == part and text[len(part):].strip(".") == "" for part in let)
            self.assertIs(text in rule, wanted, (losses, text))

    def test_what_is_let(self):
        for losses in SAMPLES[:70] + SAMPLES[-60:]:
            if max([len(text) for text in losses], default=0) <= 7:
                self.assert_lets_just(losses)
        for losses in product(texts_up_to(2), repeat=3):
            self.assert_lets_just(losses)
        for losses in (("x.x", "x.x"), ("x", "xx", "xxx"), ("..x", ".", "..xx"), ("xx..", "xx"), ("xx", "xx..", "xx.x")):
            self.assert_lets_just(losses)

    def test_pairs(self):
        self.assertEqual(tight_machine().pairs, ((0, None),))
        self.assertEqual(tight_machine("", "...").pairs, ((0, None),))
        self.assertEqual(tight_machine("x").pairs, ((1, 1), (1, None)))
        self.assertEqual(tight_machine("x....").pairs, ((1, 1), (1, None)))
        self.assertEqual(tight_machine("x.x").pairs, ((1, 2), (1, None), (3, None), (1, 1)))

    def test_long_losses(self):
        self.assertEqual(tight_machine("x" + "." * 4000).pairs, ((1, 1), (1, None)))
        many = tight_machine("x" * 38 + "." * 1000, "x" * 39)
        self.assertEqual(many.places, 40)
        self.assertEqual(many.pairs, many.ways)
        self.assertEqual(tight_machine(*["x" * many for many in range(40)]), many)

    def test_too_many_places(self):
        self.assertEqual(tight_machine("x" * 39).places, 40)
        self.assert_raised(TooMany("places", 40), tight_machine, "x" * 40)
        self.assertEqual(tight_machine("." * 38 + "x").places, 40)
        self.assert_raised(TooMany("places", 40), tight_machine, "." * 39 + "x")
        self.assert_raised(TooMany("places", 40), tight_machine, "x", "." * 39 + "x", "x.x")
        self.assert_raised(TooMany("places", 40), tight_machine, "x" * 4000)
        self.assert_raised(BadLosses("y"), tight_machine, "x" * 40, "y")


if __name__ == "__main__":
    unittest.main()
