"""Rules: what they let, their places, and what they refuse, checked against whole texts."""

import re
import unittest
from itertools import product

from laterepair.errors import BadCount, BadLosses, BadRule, TooMany
from laterepair.rules import Both, Burst, Either, Machine, Rule, Total, Window
from tests.helpers import ANY, NO_INTEGERS, Errors, all_texts, texts_up_to

NO_LOSSES = [value for value in ANY if not (type(value) is str and set(value) <= set(".x"))]


def burst_lets(most, gap):
    """A function that tells by the whole text whether Burst(most, gap) lets it."""
    def lets(text):
        kept = re.findall("(?<=x)[.]+(?=x)", text)
        return all(len(row) <= most for row in re.findall("x+", text)) and all(len(row) >= gap for row in kept)
    return lets


def window_lets(most, width):
    """A function that tells by the whole text whether Window(most, width) lets it."""
    return lambda text: all(text[at:at + width].count("x") <= most for at in range(max(1, len(text) - width + 1)))


def total_lets(most):
    """A function that tells by the whole text whether Total(most) lets it."""
    return lambda text: text.count("x") <= most


def machine_lets(pairs):
    """A function that tells by the whole text whether the Machine of these pairs lets it."""
    def lets(text):
        place = 0
        for letter in text:
            place = pairs[place][letter == "x"]
            if place is None:
                return False
        return True
    return lets


MACHINES = [
    ((0, None),), ((0, 0),), ((0, 1), (0, None)), ((0, 1), (0, 2), (0, None)), ((1, 1), (0, None)),
    ((1, 2), (1, None), (2, None)), ((0, 1), (0, 0), (2, 2)), ((0, 1), (1, 0)), ((1, 0), (2, 1), (0, None), (3, 3)),
    ((0, 1), (2, None), (0, 3), (2, None)), ((2, 1), (2, 1), (0, None), (1, 0)), ((1, None), (2, None), (0, 0)),
    ((3, 3), (0, None), (1, 1), (2, 1), (0, 5), (4, 4)), ((0, 1), (2, 1), (1, 2)),
]
SIMPLE = [
    *[(Burst(most, gap), burst_lets(most, gap)) for most in (1, 2, 3) for gap in (1, 2, 3)],
    *[(Window(most, width), window_lets(most, width)) for most in (0, 1, 2, 4) for width in (1, 2, 3, 4)],
    *[(Total(most), total_lets(most)) for most in (0, 1, 2, 4)],
    *[(Machine(*pairs), machine_lets(pairs)) for pairs in MACHINES],
]


def both_lets(one, other):
    return lambda text: one(text) and other(text)


def either_lets(one, other):
    return lambda text: one(text) or other(text)


SOME = [SIMPLE[at] for at in (0, 4, 7, 10, 14, 19, 26, 30, 33, 35, 38, 40)]
JOINED = [
    pair for (one, first), (other, second) in product(SOME, repeat=2)
    for pair in ((one & other, both_lets(first, second)), (one | other, either_lets(first, second)))
]
ALL = SIMPLE + JOINED


def ways_by_hand(lets, size):
    """The ways, told by what may follow: texts of at most this size reach all places, and tell them apart."""
    suffixes = texts_up_to(size)
    numbers, firsts = {}, []

    def mark(text):
        return tuple(lets(text + suffix) for suffix in suffixes)
    for text in texts_up_to(size):
        if lets(text) and mark(text) not in numbers:
            numbers[mark(text)] = len(numbers)
            firsts.append(text)
    return tuple((numbers[mark(text + ".")], numbers.get(mark(text + "x")) if lets(text + "x") else None)
                 for text in firsts)


class TestPlaces(unittest.TestCase):

    def test_ways_of_simple_rules(self):
        for rule, lets in SIMPLE:
            wanted = ways_by_hand(lets, 6)
            self.assertEqual(rule.ways, wanted, str(rule))
            self.assertEqual(rule.places, len(wanted))
            self.assertIsInstance(rule.ways, tuple)

    def test_ways_of_rules_put_together(self):
        seen = 0
        for rule, lets in JOINED[::3]:
            if rule.places <= 6:
                self.assertEqual(rule.ways, ways_by_hand(lets, 5), str(rule))
                seen += 1
        self.assertGreater(seen, 40)

    def test_places_at_the_bounds(self):
        for most, gap in product((1, 4, 8), (1, 2, 11, 12)):
            self.assertEqual(Burst(most, gap).places, most + gap)
        self.assertEqual([Total(most).places for most in range(13)], list(range(1, 14)))
        self.assertEqual([Window(0, width).places for width in range(1, 7)], [1] * 6)
        self.assertEqual([Window(1, width).places for width in range(1, 7)], [1, 2, 3, 4, 5, 6])
        self.assertEqual([Window(6, width).places for width in range(1, 7)], [1] * 6)
        self.assertEqual(Window(3, 6).ways, ways_by_hand(window_lets(3, 6), 7))

    def test_places_are_the_fewest(self):
        for rule, _ in ALL:
            ways = rule.ways
            kinds = {place: ways[place][1] is None for place in range(rule.places)}
            for _ in range(rule.places):
                marks = {place: (kinds[place], kinds[kept], kinds.get(lost)) for place, (kept, lost) in enumerate(ways)}
                order = list(dict.fromkeys(marks.values()))
                kinds = {place: order.index(mark) for place, mark in marks.items()}
            self.assertEqual(len(set(kinds.values())), rule.places, str(rule))

    def test_places_are_numbered_as_they_are_first_reached(self):
        for rule, _ in ALL:
            order = [0]
            for place in order:
                order.extend(dict.fromkeys(way for way in rule.ways[place] if way is not None and way not in order))
            self.assertEqual(order, list(range(rule.places)), str(rule))

    def test_pairs_never_reached_and_pairs_alike(self):
        self.assertEqual(Machine((0, 1), (0, None), (1, 1), (2, 3)).ways, ((0, 1), (0, None)))
        self.assertEqual(Machine((2, 1), (0, None), (0, 3), (2, None)).ways, ((0, 1), (0, None)))
        ring = [((at + 1) % 40, (at + 3) % 40) for at in range(40)]
        self.assertEqual(Machine(*ring).ways, ((0, 0),))
        chain = [(at, at + 1) for at in range(39)] + [(39, None)]
        self.assertEqual(Machine(*chain).ways, tuple(chain))
        self.assertEqual(Machine(*chain).places, 40)
        self.assertEqual((Machine(*chain) & Machine(*chain)).places, 40)

    def test_same_losses_same_places(self):
        for one, other in ((Window(1, 3), Burst(1, 2)), (Machine((0, None)), Total(0)), (Window(0, 5), Total(0)),
                           (Total(0) | Window(1, 1), Machine((0, 0))), (Burst(1, 1), Window(1, 2)),
                           (Total(3) & Total(1), Total(1)), (Total(3) | Total(1), Total(3))):
            self.assertEqual((one.places, one.ways), (other.places, other.ways))
            self.assertTrue(one == other)

    def test_behind(self):
        for rule, _ in ALL[::5]:
            for place, (kept, lost) in enumerate(rule.ways):
                self.assertEqual(rule.behind(place, False), kept)
                self.assertEqual(rule.behind(is_lost=True, place=place), lost)


class TestLosses(Errors, unittest.TestCase):

    def test_what_rules_let(self):
        for rule, lets in ALL:
            for text in all_texts(8):
                self.assertIs(text in rule, lets(text), (str(rule), text))
            for text in texts_up_to(3):
                self.assertIs(text in rule, lets(text), (str(rule), text))

    def test_place_behind_losses(self):
        for rule, lets in SIMPLE:
            for text in all_texts(6):
                place = 0
                for letter in text:
                    place = None if place is None else rule.behind(place, letter == "x")
                self.assertEqual(rule(text), place)
                self.assertEqual(rule(losses=text) is None, not lets(text))
            self.assertEqual(rule(""), 0)

    def test_first_refused(self):
        for rule, lets in ALL[::3]:
            for text in texts_up_to(6):
                refused = [at for at in range(len(text)) if not lets(text[:at + 1])]
                self.assertEqual(rule.first_refused(text), refused[0] if refused else None)
        self.assertEqual(Burst(2, 3).first_refused(losses="xx..x"), 4)

    def test_all_losses(self):
        for rule, lets in ALL:
            for ticks in (0, 1, 2, 3, 7):
                self.assertEqual(list(rule.all_losses(ticks)), [text for text in all_texts(ticks) if lets(text)])
        self.assertEqual(list(Total(1).all_losses(ticks=2)), ["..", ".x", "x."])

    def test_many(self):
        for rule, lets in ALL:
            for ticks in (0, 1, 5, 8):
                self.assertEqual(rule.many(ticks), sum(lets(text) for text in all_texts(ticks)))
        self.assertEqual(Machine((0, 0)).many(ticks=4000), 2 ** 4000)
        self.assertEqual(Total(0).many(4000), 1)
        self.assertEqual(Total(2).many(4000), 1 + 4000 + 4000 * 3999 // 2)

    def test_all_losses_of_many_ticks(self):
        for rule in (Burst(2, 3), Machine((0, 0)), Total(3), Total(0)):
            generator = rule.all_losses(4000)
            self.assertEqual(next(generator), "." * 4000)
            if rule != Total(0):
                self.assertEqual(next(generator), "." * 3999 + "x")
                self.assertEqual(next(generator), "." * 3998 + "x.")
            else:
                self.assertEqual(list(generator), [])

    def test_generators_side_by_side(self):
        rule = Burst(2, 1)
        one, other = rule.all_losses(5), rule.all_losses(5)
        wanted = list(rule.all_losses(5))
        self.assertEqual(next(one), wanted[0])
        self.assertEqual([next(other), next(other)], wanted[:2])
        self.assertEqual([next(one), next(other)], wanted[1:3])
        self.assertEqual(list(zip(one, other)), list(zip(wanted[2:], wanted[3:])))

    def test_refused(self):
        rule = Burst(2, 3)
        for value in NO_LOSSES:
            self.assert_raised(BadLosses(value), rule, value)
            self.assert_raised(BadLosses(value), rule, losses=value)
            self.assert_raised(BadLosses(value), rule.first_refused, value)
            self.assertIs(value in rule, False)
        for value in [-1, 4001, 10 ** 39, *NO_INTEGERS]:
            self.assert_raised(BadCount(value), rule.many, value)
            self.assert_raised(BadCount(value), lambda: next(rule.all_losses(value)))
            self.assert_raised(BadCount(value), lambda: list(rule.all_losses(ticks=value)))
        for value in [-1, 5, 10 ** 39, *NO_INTEGERS]:
            self.assert_raised(BadRule("place"), rule.behind, value, False)
            self.assert_raised(BadRule("place"), rule.behind, value, 0)
        for value in ANY:
            if not isinstance(value, bool):
                self.assert_raised(BadRule("is_lost"), rule.behind, 4, value)


class TestMade(Errors, unittest.TestCase):

    def test_attributes(self):
        burst, window, total = Burst(8, 12), Window(0, 6), Total(12)
        self.assertEqual((burst.most, burst.gap, window.most, window.width, total.most), (8, 12, 0, 6, 12))
        machine = Machine((0, 1), (0, None))
        self.assertEqual(machine.pairs, ((0, 1), (0, None)))
        self.assertIsInstance(machine.pairs, tuple)
        small = Burst(2, 3)
        both, either = small & window, Either(other=small, one=window)
        self.assertIsInstance(both, Both)
        self.assertIsInstance(small | window, Either)
        self.assertIs(both.one, small)
        self.assertIs(both.other, window)
        self.assertIs(either.one, window)
        self.assertIs(either.other, small)
        for rule in (burst, window, total, machine, both, either):
            self.assertIsInstance(rule, Rule)
        self.assertEqual((Burst(gap=2, most=1), Window(width=4, most=1), Total(most=3)),
                         (Burst(1, 2), Window(1, 4), Total(3)))

    def test_numbers_out_of_bounds(self):
        for value in [0, 9, -1, 10 ** 39, *NO_INTEGERS]:
            self.assert_raised(BadRule("most"), Burst, value, 1)
            self.assert_raised(BadRule("most"), Burst, value, 0)
            self.assert_raised(BadRule("most"), Burst, gap=None, most=value)
        for value in [0, 13, -1, 10 ** 39, *NO_INTEGERS]:
            self.assert_raised(BadRule("gap"), Burst, 8, value)
        for value in [-1, 7, 10 ** 39, *NO_INTEGERS]:
            self.assert_raised(BadRule("most"), Window, value, 1)
            self.assert_raised(BadRule("most"), Window, value, 0)
        for value in [0, 7, -1, 10 ** 39, *NO_INTEGERS]:
            self.assert_raised(BadRule("width"), Window, 6, value)
        for value in [-1, 13, 10 ** 39, *NO_INTEGERS]:
            self.assert_raised(BadRule("most"), Total, value)

    def test_wrong_machines(self):
        self.assert_raised(BadRule("pairs"), Machine)
        self.assertEqual(Machine(*[(0, None)] * 40).places, 1)
        self.assert_raised(TooMany("pairs", 40), Machine, *[(0, None)] * 41)
        self.assert_raised(TooMany("pairs", 40), Machine, *[None] * 41)
        wrong = [value for value in ANY if value != (0, 1) or not isinstance(value, tuple)]
        for value in [*wrong, (2, 0), (0, 2), (-1, 0), (0, -1), (None, 0), (True, 0), (0, False), [0, 1], (0, 1, 0),
                      ("0", 0), (0, "-"), (0,), (10 ** 39, 0), ((0,), 0), (0, (None,))]:
            self.assert_raised(BadRule(0), Machine, value, (0, 1))
            self.assert_raised(BadRule(1), Machine, (0, 1), value)
            self.assert_raised(BadRule(0), Machine, value, value)
        self.assert_raised(BadRule(39), Machine, *[(0, 39)] * 39, (0, 40))

    def test_no_rules(self):
        rule = Total(1)
        for value in ANY:
            if isinstance(value, Rule):
                continue
            self.assert_raised(BadRule("one"), Both, value, rule)
            self.assert_raised(BadRule("one"), Either, value, value)
            self.assert_raised(BadRule("other"), Both, rule, value)
            self.assert_raised(BadRule("other"), Either, one=rule, other=value)
            self.assert_raised(BadRule("other"), lambda: rule & value)
            self.assert_raised(BadRule("other"), lambda: rule | value)

    def test_too_many_places(self):
        chain = Machine(*[(at, at + 1) for at in range(39)], (39, None))
        self.assert_raised(TooMany("places", 40), lambda: Burst(8, 12) & Total(12))
        self.assert_raised(TooMany("places", 40), lambda: Burst(8, 12) | Total(12))
        self.assertEqual(((Burst(1, 7) | Burst(7, 12)).places, (Burst(3, 1) & Total(12)).places), (40, 40))
        # One place more than there may be.
        self.assert_raised(TooMany("places", 40), lambda: Burst(1, 4) | Total(7))
        self.assert_raised(TooMany("places", 40), lambda: Burst(4, 4) & Total(7))
        self.assert_raised(TooMany("places", 40), Both, chain, Burst(1, 1))
        self.assert_raised(TooMany("places", 40), Either, chain, Window(1, 2))
        self.assertEqual(Both(chain, Total(12)), Total(12))

    def test_in_place(self):
        held = rule = Total(3)
        rule &= Burst(1, 1)
        self.assertEqual(rule, Total(3) & Burst(1, 1))
        rule |= Total(1)
        self.assertEqual(rule, (Total(3) & Burst(1, 1)) | Total(1))
        self.assertEqual(held, Total(3))

    def test_equal(self):
        marks = [[text for text in all_texts(9) if text in rule] for rule, _ in ALL]
        for at in range(0, len(ALL), 4):
            for other in range(len(ALL)):
                self.assertIs(ALL[at][0] == ALL[other][0], marks[at] == marks[other],
                              (str(ALL[at][0]), str(ALL[other][0])))
                self.assertIs(ALL[at][0] != ALL[other][0], marks[at] != marks[other])
        for value in ANY:
            if not isinstance(value, Rule):
                self.assertFalse(Total(0) == value)
        self.assertFalse(Total(0) == ((0, None),))
        self.assertFalse(Total(0) == "total 0")


if __name__ == "__main__":
    unittest.main()
