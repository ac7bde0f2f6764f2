"""Whether a rule lets all that another one lets, and the papers that show it."""

import unittest
from itertools import product

from laterepair.errors import BadRule
from laterepair.inside import Inside, Outside, inside, shows_inside
from laterepair.rules import Burst, Machine, Rule, Total, Window
from laterepair.verdicts import Verdict
from tests.helpers import ANY, Errors, texts_up_to

RULES = [
    Total(0), Total(1), Total(2), Burst(1, 1), Burst(1, 2), Burst(2, 1), Burst(2, 2), Window(1, 2), Window(1, 3),
    Window(2, 3), Window(1, 1), Machine((0, 1), (0, None)), Machine((1, 1), (0, None)), Machine((0, 1), (0, 0)),
    Machine((0, 1), (2, 0), (0, None)), Burst(1, 1) & Total(2), Total(1) | Burst(1, 2), Total(1) & Burst(2, 1),
]
TEXTS = texts_up_to(9)


class TestInside(Errors, unittest.TestCase):

    def test_pairs_and_shortest_losses(self):
        lets = [[text for text in TEXTS if text in rule] for rule in RULES]
        for one, other in product(range(len(RULES)), repeat=2):
            told = inside(RULES[one], RULES[other])
            outside = [text for text in lets[one] if text not in RULES[other]]
            if outside:
                self.assertEqual(told, Outside(outside[0]))
                self.assertIs(bool(told), False)
            else:
                pairs = {(RULES[one](text), RULES[other](text)) for text in lets[one]}
                self.assertEqual(told, Inside(tuple(sorted(pairs))))
                self.assertIs(bool(told), True)
            self.assertIsInstance(told, Verdict)
            self.assertIs(shows_inside(RULES[one], RULES[other], told), True)
            self.assertIs(shows_inside(other=RULES[other], one=RULES[one], value=told), True)

    def test_only_what_fits_is_shown(self):
        papers = [inside(one, other) for one, other in product(RULES, repeat=2)]
        for one, other in product(RULES[::3], RULES[::2]):
            for paper in papers:
                self.assertIs(shows_inside(one, other, paper), shown_by_hand(one, other, paper))

    def test_long_losses(self):
        one = Machine((0, 1), *[(at + 1, None) for at in range(1, 39)], (0, None))
        other = Machine(*[(at + 1, at + 1) for at in range(38)], (0, None))
        told = inside(one, other)
        self.assertIs(shows_inside(one, other, told), True)
        self.assertFalse(told)
        self.assertEqual(inside(one, one).pairs, tuple((at, at) for at in range(40)))
        self.assertEqual(inside(other=one, one=one), inside(one, one))

    def test_no_rules(self):
        rule = Total(1)
        for value in ANY:
            if isinstance(value, Rule):
                continue
            self.assert_raised(BadRule("one"), inside, value, rule)
            self.assert_raised(BadRule("one"), inside, value, value)
            self.assert_raised(BadRule("other"), inside, rule, value)
            for paper in (Inside(()), value):
                self.assert_raised(BadRule("one"), shows_inside, value, rule, paper)
                self.assert_raised(BadRule("one"), shows_inside, value, value, paper)
                self.assert_raised(BadRule("other"), shows_inside, rule, value, paper)


def shown_by_hand(one, other, paper):
    """Whether an Inside or an Outside of tuples of pairs, or of losses, shows what it says."""
    if isinstance(paper, Outside):
        return paper.losses in one and paper.losses not in other
    pairs = set(paper.pairs)
    if list(paper.pairs) != sorted(pairs) or (0, 0) not in pairs:
        return False
    if any(first >= one.places or second >= other.places for first, second in pairs):
        return False
    after = {(one.ways[first][lost], other.ways[second][lost]) for first, second in pairs for lost in (0, 1)
             if one.ways[first][lost] is not None}
    return after <= pairs


class TestShown(unittest.TestCase):

    def setUp(self):
        self.one, self.other = Burst(1, 2), Window(2, 3)
        self.pairs = inside(self.one, self.other).pairs

    def shows(self, pairs):
        return shows_inside(self.one, self.other, Inside(pairs))

    def test_pairs_left_out(self):
        for at in range(len(self.pairs)):
            self.assertIs(self.shows(self.pairs[:at] + self.pairs[at + 1:]), False)
        self.assertIs(self.shows(()), False)

    def test_pairs_put_in_and_changed(self):
        every = [(one, other) for one in range(-1, self.one.places + 1) for other in range(-1, self.other.places + 1)]
        for pair in every:
            for at in range(len(self.pairs) + 1):
                pairs = self.pairs[:at] + (pair,) + self.pairs[at:]
                inner = 0 <= pair[0] < self.one.places and 0 <= pair[1] < self.other.places
                wanted = inner and shown_by_hand(self.one, self.other, Inside(pairs))
                self.assertIs(self.shows(pairs), wanted, pairs)
            for at in range(len(self.pairs)):
                pairs = self.pairs[:at] + (pair,) + self.pairs[at + 1:]
                self.assertIs(self.shows(pairs), pairs == self.pairs)

    def test_further_pairs_that_are_closed(self):
        one, other = Total(1), Total(4)
        self.assertIs(shows_inside(one, other, Inside(((0, 0), (1, 1)))), True)
        self.assertIs(shows_inside(one, other, Inside(((0, 0), (1, 1), (1, 3)))), True)
        self.assertIs(shows_inside(one, other, Inside(((0, 0), (0, 2), (1, 1), (1, 3)))), True)
        self.assertIs(shows_inside(one, other, Inside(((0, 0), (0, 2), (1, 1)))), False)
        self.assertIs(shows_inside(one, other, Inside(((0, 0), (0, 4), (1, 1)))), False)
        self.assertIs(shows_inside(one, other, Inside(((1, 1),))), False)
        self.assertIs(shows_inside(one, other, Inside(((0, 0), (1, 1), (1, 5)))), False)

    def test_other_order_and_repeated_pairs(self):
        self.assertIs(self.shows(self.pairs[::-1]), False)
        self.assertIs(self.shows(self.pairs + self.pairs[-1:]), False)
        self.assertIs(self.shows(self.pairs[:1] + self.pairs), False)
        self.assertIs(self.shows(self.pairs * 50), False)

    def test_other_kinds(self):
        self.assertIs(self.shows(self.pairs), True)
        self.assertIs(self.shows(list(self.pairs)), False)
        self.assertIs(self.shows(tuple(list(pair) for pair in self.pairs)), False)
        self.assertIs(self.shows(dict.fromkeys(self.pairs)), False)
        self.assertIs(shows_inside(Total(1), Total(1), Inside(((0, 0), (True, 1)))), False)
        self.assertIs(shows_inside(Total(1), Total(1), Inside(((False, False), (1, 1)))), False)
        self.assertIs(shows_inside(Total(1), Total(1), Inside(((0, 0), (1, 1, 1)))), False)
        self.assertIs(shows_inside(Total(1), Total(1), Inside(((0, 0), (1, None)))), False)
        self.assertIs(shows_inside(Total(1), Total(1), Inside(((0, 0), None, (1, 1)))), False)
        for value in ANY:
            self.assertIs(self.shows(value), False, value)
            self.assertIs(self.shows(self.pairs + (value,)), False, value)
            self.assertIs(self.shows(((0, 0), (value, 0))), False, value)

    def test_other_values(self):
        for value in ANY:
            if not (isinstance(value, Outside) and value.losses == "x"):
                self.assertIs(shows_inside(Total(1), Total(0), value), False, value)
        self.assertIs(shows_inside(Total(1), Total(0), "x"), False)
        self.assertIs(shows_inside(Total(1), Total(1), ((0, 0), (1, 1))), False)

    def test_losses_changed(self):
        one, other = Total(2), Total(1)
        for text in texts_up_to(5):
            self.assertIs(shows_inside(one, other, Outside(text)), text.count("x") == 2)
            for letter in ("y", "\n", " ", "X"):
                self.assertIs(shows_inside(one, other, Outside(text + letter)), False)
        self.assertIs(shows_inside(one, other, Outside("x" + "." * 100000 + "x")), True)
        for value in ANY:
            self.assertIs(shows_inside(one, other, Outside(value)), False, value)

    def test_an_inside_does_not_show_the_contrary(self):
        self.assertIs(shows_inside(Total(2), Total(1), Inside(((0, 0), (1, 1)))), False)
        self.assertIs(shows_inside(Total(2), Total(1), Inside(((0, 0), (1, 1), (2, 1)))), False)
        self.assertIs(shows_inside(Total(1), Total(2), Outside("xx")), False)


class TestPapers(unittest.TestCase):

    def test_what_they_keep(self):
        for value in ANY:
            self.assertIs(Inside(value).pairs, value)
            self.assertIs(Inside(pairs=value).pairs, value)
            self.assertIs(Outside(value).losses, value)
            self.assertIs(Outside(losses=value).losses, value)
            self.assertIs(bool(Inside(value)), True)
            self.assertIs(bool(Outside(value)), False)
            self.assertTrue(isinstance(Inside(value), Verdict) and isinstance(Outside(value), Verdict))

    def test_equal(self):
        for one, other in product(ANY, repeat=2):
            self.assertIs(Inside(one) == Inside(other), one == other)
            self.assertIs(Outside(one) == Outside(other), one == other)
            self.assertFalse(Inside(one) == Outside(other))
            self.assertFalse(Outside(one) == Inside(other))
        for value in ANY:
            if not isinstance(value, (Inside, Outside)):
                self.assertFalse(Inside(value) == value)
                self.assertFalse(value == Outside(value))
        self.assertTrue(Inside(((0, 1),)) == Inside(((False, True),)))


if __name__ == "__main__":
    unittest.main()
