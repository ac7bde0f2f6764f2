"""Spaces: made, asked, refused and put together, checked against the sets of all their sums."""

import unittest
from itertools import combinations, permutations, product

from laterepair.errors import BadCount, BadSpace, BadText
from laterepair.spaces import Space
from tests.helpers import ANY, NO_INTEGERS, NO_STRINGS, Errors, all_sums

SMALL = range(8)
SOME_ROWS = [
    (), (0,), (1,), (65535,), (32768,), (3, 6), (6, 3), (3, 5, 6), (9, 12, 2), (7, 7, 0, 7), (1, 2, 4, 8),
    (40000, 1234, 65535), (513, 1026, 2052, 4104), (255, 65280), (32769, 49152, 24576, 5), (1024, 3072, 2048),
    tuple(1 << bit for bit in range(16)), tuple(65535 ^ (1 << bit) for bit in range(16)), (43690, 21845),
    (61440, 3855, 13107, 170),
]
# Not an integer from 0 to 65,535.
NO_ROWS = [-1, 65536, 10 ** 39, -(10 ** 39), *NO_INTEGERS]


def small_spaces():
    """All spaces over the ages 0 to 2, by their rows."""
    return {Space(*rows).rows: Space(*rows) for many in range(4) for rows in combinations(SMALL, many)}.values()


def reduced_by_hand(sums):
    """The reduced rows, told from the set of all integers: for each greatest bit the least integer that has it."""
    rows = {}
    for bits in sorted(sums - {0}):
        rows.setdefault(bits.bit_length(), bits)
    return tuple(sorted(rows.values()))


class TestMade(unittest.TestCase):

    def test_rows_over_few_ages(self):
        for many in range(4):
            for rows in product(SMALL, repeat=many):
                space = Space(*rows)
                self.assertEqual(space.rows, reduced_by_hand(all_sums(rows)), rows)
                self.assertEqual({bits for bits in range(16) if bits in space}, all_sums(rows))

    def test_rows_are_reduced(self):
        for rows in SOME_ROWS:
            made = Space(*rows).rows
            self.assertIsInstance(made, tuple)
            self.assertEqual(list(made), sorted(made))
            self.assertEqual(all_sums(made), all_sums(rows))
            for row, other in permutations(made, 2):
                self.assertNotEqual(row.bit_length(), other.bit_length())
                self.assertFalse(other >> (row.bit_length() - 1) & 1)

    def test_same_space_in_any_order_and_of_all_its_integers(self):
        for rows in SOME_ROWS[:16]:
            space = Space(*rows)
            self.assertEqual(Space(*reversed(rows)), space)
            self.assertEqual(Space(*space.rows), space)
            self.assertEqual(Space(*rows, 0, *rows), space)
            self.assertEqual(Space(*sorted(all_sums(rows))), space)
            self.assertEqual(Space(*sorted(all_sums(rows), reverse=True)), space)
        self.assertEqual(Space(*range(65536)), Space.whole(16))
        self.assertEqual(Space(*range(65535, -1, -1)).rows, Space.whole(16).rows)

    def test_length_iteration_truth(self):
        for rows in SOME_ROWS:
            space = Space(*rows)
            self.assertEqual(2 ** len(space), len(all_sums(rows)))
            self.assertEqual(tuple(space), space.rows)
            self.assertEqual(list(space), list(space.rows))
            self.assertIs(bool(space), len(space) > 0)
        self.assertFalse(Space())
        self.assertFalse(Space(0, 0))
        self.assertTrue(Space(1))

    def test_integers_of_a_space(self):
        for rows in SOME_ROWS:
            space, sums = Space(*rows), all_sums(rows)
            self.assertIn(0, space)
            for bits in [*range(300), *range(32700, 32800), 65535, 65534, 43690, 21845]:
                self.assertIs(bits in space, bits in sums, (rows, bits))
            for value in NO_ROWS:
                self.assertIs(value in space, False, (rows, value))

    def test_equal(self):
        self.assertTrue(Space(3, 6) == Space(6, 5))
        self.assertFalse(Space(3, 6) != Space(6, 5))
        self.assertTrue(Space(3, 6) != Space(3))
        self.assertFalse(Space(3, 6) == Space(3, 4))
        for value in ANY:
            if not isinstance(value, Space):
                self.assertFalse(Space() == value)
                self.assertFalse(value == Space(3))
        self.assertFalse(Space(3) == (3,))

    def test_class_value(self):
        self.assertEqual(Space.MOST, 15)
        self.assertEqual(Space(1).MOST, 15)


class TestRefused(Errors, unittest.TestCase):

    def test_wrong_rows(self):
        for value in NO_ROWS:
            for rows in ((value,), (value, 1, 2), (1, value, 2), (1, 2, value), (value, value)):
                self.assert_raised(BadSpace("rows"), Space, *rows)

    def test_wrong_other(self):
        space = Space(3, 6)
        for value in ANY:
            if isinstance(value, Space):
                continue
            self.assert_raised(BadSpace("other"), lambda: space + value)
            self.assert_raised(BadSpace("other"), lambda: space & value)
            self.assert_raised(BadSpace("other"), space.within, value)
            self.assert_raised(BadSpace("other"), space.within, other=value)
        self.assertEqual(space.rows, (3, 5))

    def test_wrong_other_in_place(self):
        held = space = Space(3, 6)
        with self.assertRaises(BadSpace):
            space += 3
        with self.assertRaises(BadSpace):
            space &= (3,)
        self.assertIs(space, held)
        self.assertEqual(held.rows, (3, 5))

    def test_wrong_bits(self):
        space = Space(3, 6)
        for value in NO_ROWS:
            self.assert_raised(BadSpace("bits"), space.rest, value)
            self.assert_raised(BadSpace("bits"), space.rest, bits=value)

    def test_wrong_counts(self):
        space = Space(3, 6)
        for value in [-1, 17, 10 ** 39, -(10 ** 39), *NO_INTEGERS]:
            self.assert_raised(BadCount(value), space.below, value)
            self.assert_raised(BadCount(value), Space.whole, value)
            self.assert_raised(BadCount(value), space.whole, many=value)
        for value in [-1, 16, 17, 10 ** 39, *NO_INTEGERS]:
            self.assert_raised(BadCount(value), space.missed, value)
        self.assertEqual(space.rows, (3, 5))

    def test_older_with_the_greatest_age(self):
        for rows in ((32768,), (32769, 1), (65535, 3), (49152, 16384), tuple(1 << bit for bit in range(16))):
            space = Space(*rows)
            self.assert_raised(BadSpace("rows"), space.older)
            self.assertEqual(space, Space(*rows))


class TestPutTogether(unittest.TestCase):

    def check_pair(self, one, other):
        first, second = all_sums(one.rows), all_sums(other.rows)
        rows = one.rows, other.rows
        self.assertEqual(all_sums((one + other).rows), {a ^ b for a in first for b in second}, rows)
        self.assertEqual(all_sums((one & other).rows), first & second, rows)
        self.assertIs(one.within(other), first <= second)
        self.assertEqual((one.rows, other.rows), rows)

    def test_all_pairs_over_few_ages(self):
        for one, other in product(small_spaces(), repeat=2):
            self.check_pair(one, other)

    def test_pairs_over_many_ages(self):
        spaces = [Space(*rows) for rows in SOME_ROWS if len(Space(*rows)) <= 5]
        spaces.extend([Space(3, 6) + Space(65280), Space(3, 6, 65280, 129), Space(5, 65280 ^ 3)])
        for one, other in product(spaces, repeat=2):
            self.check_pair(one, other)

    def test_whole_spaces(self):
        for many, more in product((0, 3, 15, 16), repeat=2):
            one, other = Space.whole(many), Space.whole(more)
            self.assertEqual(one + other, Space.whole(max(many, more)))
            self.assertEqual(one & other, Space.whole(min(many, more)))
            self.assertIs(one.within(other), many <= more)

    def test_in_place(self):
        held = space = Space(3, 6)
        space += Space(2)
        self.assertEqual((space.rows, held.rows), ((1, 2, 4), (3, 5)))
        other = space
        space &= Space(5, 8)
        self.assertEqual((space.rows, other.rows), ((5,), (1, 2, 4)))


class TestAges(unittest.TestCase):

    def test_older(self):
        for rows in SOME_ROWS:
            space = Space(*rows)
            if max(all_sums(rows)) < 32768:
                self.assertEqual(all_sums(space.older().rows), {2 * bits for bits in all_sums(rows)})
                self.assertEqual(space, Space(*rows))
        self.assertEqual(Space(16384).older().rows, (32768,))
        self.assertEqual(Space.whole(15).older().rows, tuple(1 << bit for bit in range(1, 16)))

    def test_below(self):
        for rows in SOME_ROWS:
            for many in range(17):
                wanted = {bits for bits in all_sums(rows) if bits < 2 ** many}
                self.assertEqual(all_sums(Space(*rows).below(many).rows), wanted, (rows, many))
        self.assertEqual(Space(9, 12, 2).below(many=3).rows, (2, 5))

    def test_tells_and_told(self):
        for rows in SOME_ROWS:
            space, sums = Space(*rows), all_sums(rows)
            told = tuple(age for age in range(16) if 2 ** age in sums)
            self.assertEqual(space.told, told)
            self.assertIsInstance(space.told, tuple)
            for age in range(16):
                self.assertIs(space.tells(age), age in told)
                self.assertIs(space.tells(age=age), age in told)
            for value in [-1, 16, 17, 10 ** 39, *NO_INTEGERS]:
                self.assertIs(space.tells(value), False, (rows, value))

    def test_rest(self):
        for space in small_spaces():
            sums = all_sums(space.rows)
            for bits in [*range(40), 65535, 32768]:
                self.assertEqual(space.rest(bits), min(bits ^ other for other in sums))
        for rows in SOME_ROWS:
            sums = all_sums(rows)
            for bits in (0, 1, 77, 4096, 32768, 65535):
                self.assertEqual(Space(*rows).rest(bits=bits), min(bits ^ other for other in sums), (rows, bits))

    def test_missed_over_few_ages(self):
        for space in small_spaces():
            for age in range(5):
                self.assertEqual(space.missed(age), least_missed(space.rows, age, 64), (space.rows, age))

    def test_missed_over_sixteen_ages(self):
        for rows in SOME_ROWS:
            for age in range(0, 16, 3):
                space = Space(*rows)
                self.assertEqual(space.missed(age=age), least_missed(rows, age, 65536), (rows, age))

    def test_missed_exactly_if_not_told(self):
        for rows in SOME_ROWS:
            for age in range(16):
                space = Space(*rows)
                missed = space.missed(age)
                self.assertIs(missed is None, space.tells(age))
                if missed is not None:
                    self.assertTrue(missed >> age & 1)
                    self.assertTrue(all((missed & bits).bit_count() % 2 == 0 for bits in space.rows))

    def test_whole(self):
        for many in range(17):
            space = Space.whole(many)
            self.assertEqual(space.rows, tuple(1 << bit for bit in range(many)))
            self.assertEqual(all_sums(space.rows), set(range(2 ** many)))
            self.assertEqual(Space.whole(many=many), space)
            self.assertEqual(space.told, tuple(range(many)))


def least_missed(rows, age, most):
    """The least integer with the bit age that meets all rows evenly, found by trying them all."""
    for bits in range(1 << age, most):
        if bits >> age & 1 and all((bits & row).bit_count() % 2 == 0 for row in rows):
            return bits
    return None


class TestTexts(Errors, unittest.TestCase):

    def test_written_and_read(self):
        for rows in SOME_ROWS:
            space = Space(*rows)
            text = str(space)
            self.assertEqual(text, " ".join(str(row) for row in space.rows) if space.rows else "-")
            self.assertEqual(Space.read(text), space)
            self.assertEqual(str(Space.read(text=text)), text)
        for space in small_spaces():
            self.assertEqual(space.read(str(space)), space)
        self.assertEqual(str(Space(0)), "-")

    def test_only_texts_of_spaces_are_read(self):
        numbers = [str(number) for number in range(10)]
        texts = {str(space) for space in [Space(*rows) for many in range(4) for rows in combinations(range(10), many)]}
        for many in range(1, 4):
            for words in product([*numbers, "-"], repeat=many):
                text = " ".join(words)
                if text in texts:
                    self.assertEqual(str(Space.read(text)), text)
                else:
                    at = next(at for at in range(many) if " ".join(words[:at + 1]) not in texts)
                    self.assert_raised(BadText(0, at), Space.read, text)

    def test_no_text(self):
        for value in [*NO_STRINGS, ""]:
            self.assert_raised(BadText(0, 0), Space.read, value)

    def test_words_that_cannot_stand(self):
        wrong = [
            ("0", 0), ("65536", 0), ("100000", 0), ("9" * 4000, 0), ("-1", 0), ("+1", 0), ("01", 0), ("1.0", 0),
            ("x", 0), ("1_0", 0), (" 1", 0), ("1 ", 1), ("1  2", 1), (" ", 0), ("1 2 ", 2), ("\n", 0), ("1\n", 0),
            ("1 2\n", 1), ("1\n2", 0), ("- ", 1), ("-  ", 1), ("- 1", 1), ("- -", 1), ("--", 0), ("1 -", 1), ("1 2 -", 2),
            ("2 1", 1), ("1 1", 1), ("3 6", 1), ("4 5", 1), ("4 6", 1), ("3 5 6", 2), ("1 3", 1), ("1 2 5", 2),
            ("2 4 9 8", 3), ("1 0", 1), ("1 02", 1), ("1 65536", 1), ("1 2 65536 x", 2), ("1 32768 65534", 2),
            ("0x1", 0), ("1e3", 0), ("1 2 4 7", 3), ("5 2", 1), ("1 True", 1), ("4 8 12", 2),
        ]
        for text, at in wrong:
            self.assert_raised(BadText(0, at), Space.read, text)
        for text in ("1", "65535", "1 2", "2 5", "3 5", "1 32768", "2 4 9", "-", "1 65534"):
            self.assertEqual(str(Space.read(text)), text)


if __name__ == "__main__":
    unittest.main()
