"""Texts of ticks and plans, written and read."""

import re
import unittest
from itertools import combinations, permutations, product

from laterepair.errors import BadText
from laterepair.plans import Plan, Tick, copies, parity
from tests.helpers import NO_STRINGS, Errors, changed_words, wrong_word

SUM = "[0-8]( [0-8])*"
TICK = re.compile(f"(mute )?(-|{SUM}( , {SUM}){{0,5}})")
ENDINGS = [[], ["-"], *[[str(age)] for age in range(9)]]
OTHERS = ["", "0", "1", "2", "3", "8", "9", "10", "00", "01", "+1", "-1", "-", ",", "/", "mute", "Mute", "x", "1\n",
          "\n", ",,", "(", "burst"]


def is_tick(words):
    """Whether these words are the text of a tick: by its form, and by what its sums are."""
    text = " ".join(words)
    if not TICK.fullmatch(text):
        return False
    sums = re.sub("mute |-", "", text).split(" , ")
    if sums == [""]:
        return True
    rows = [sorted(set(ages.split())) for ages in sums]
    if [" ".join(row) for row in rows] != sums or len(set(sums)) < len(sums):
        return False
    return not (text.startswith("mute") and any("0" in row for row in rows))


def is_plan(words):
    """Whether these words are the text of a plan."""
    ticks = " ".join(words).split(" / ")
    return len(ticks) <= 6 and all(is_tick(tick.split(" ")) for tick in ticks)


def wanted_word(words, is_whole):
    """The index of the first wrong word, None if there is none.

    A sum that equals an earlier one ends ahead of the first word that is no age: so its last word is wrong then,
    though a further age might have stood behind it.
    """
    at = wrong_word(words, is_whole, ENDINGS)
    if at is None or at == 0 or words[at - 1] not in list("012345678"):
        return at
    if at < len(words) and words[at] in list("012345678"):
        return at
    return at if is_whole(words[:at]) else at - 1


SUMS = [(0,), (1,), (2,), (0, 1), (1, 2), (0, 1, 2), (8,), (0, 8)]
TICKS = [Tick(), Tick(mute=True), *[Tick(*sums) for many in (1, 2, 3) for sums in permutations(SUMS[:5], many)],
         Tick((1,), (2, 8), mute=True), Tick(tuple(range(9))), Tick(tuple(range(1, 9)), mute=True),
         Tick((5,), (4,), (3,), (2,), (1,), (0,)), Tick((0,), (0, 1), (0, 1, 2), (0, 2), (0, 8), (8,))]
PLANS = [Plan(tick) for tick in TICKS] + [parity(size) for size in range(1, 6)] + [
    copies(1, 3), Plan(*TICKS[:6]), Plan(*TICKS[6:12]), Plan(Tick((0,)), Tick()), Plan(Tick(mute=True), Tick((1, 2)))]


class TestTickTexts(Errors, unittest.TestCase):

    def test_written(self):
        self.assertEqual([str(tick) for tick in (Tick(), Tick(mute=True), Tick((0,)), Tick((0,), (1, 2)),
                                                 Tick((8,), (1, 2, 3), mute=True))],
                         ["-", "mute -", "0", "0 , 1 2", "mute 8 , 1 2 3"])

    def test_read_what_is_written(self):
        for tick in TICKS:
            self.assertEqual(Tick.read(str(tick)), tick)
            self.assertEqual(str(Tick.read(text=str(tick))), str(tick))
        self.assertEqual(Tick((0,)).read("mute 1"), Tick((1,), mute=True))

    def test_no_text(self):
        for value in [*NO_STRINGS, ""]:
            self.assert_raised(BadText(0, 0), Tick.read, value)
            self.assert_raised(BadText(0, 0), Plan.read, value)

    def test_words_that_cannot_stand(self):
        wrong = [
            ("9", 0), ("-1", 0), ("00", 0), ("x", 0), (",", 0), ("/", 0), ("mute", 1), ("mute mute", 1), ("mute ", 1),
            ("mute 0", 1), ("mute 1 0", 2), ("mute 1 , 0", 3), ("mute 1 , 2 , 0 1", 5), ("0 mute", 1), ("0 ,", 2),
            ("0 , ", 2), ("0 , ,", 2), ("0 , -", 2), ("- -", 1), ("- 0", 1), ("- ,", 1), ("- , 0", 1), ("0 -", 1),
            ("0 0", 1), ("1 0", 1), ("0 1 1", 2), ("0 , 0", 2), ("0 , 0 , 1", 2), ("0 , 0 x", 2), ("0 , 0 9", 2),
            ("0 , 0 ,", 2), ("0 , 0 /", 2), ("0 , 0 ", 2), ("0 1 , 0 1", 4), ("0 1 , 0 1 1", 5), ("0 1 , 0 1 0", 5),
            ("0 1 , 0 1 ,", 4), ("0 , 1 , 0", 4), ("0 , 1 , 1 0", 5), ("8 , 8 8", 3), ("0 , 1 , 2 , 3 , 4 , 5 ,", 11),
            ("0 , 1 , 2 , 3 , 4 , 5 , 6", 11), ("0 , 1 , 2 , 3 , 4 , 4 , 6", 10), ("0  1", 1), (" 0", 0), ("0 ", 1),
            ("0\n", 0), ("0 , 1\n", 2), ("0,1", 0), ("0 / 1", 1), ("-\n", 0), ("0 1 , 0 , 0", 5), ("MUTE 1", 0),
        ]
        for text, at in wrong:
            self.assert_raised(BadText(0, at), Tick.read, text)
        self.assertEqual(Tick.read("0 , 0 1 , 0 1 2"), Tick((0,), (0, 1), (0, 1, 2)))

    def test_changed_words(self):
        for text in ("-", "mute -", "0", "0 , 1 2", "mute 1 , 2 3", "0 , 1 , 0 1 , 2", "0 , 1 , 2 , 3 , 4 , 5"):
            for words in changed_words(text.split(" "), OTHERS):
                at = wanted_word(words, is_tick) if words else 0
                if at is None:
                    self.assertEqual(str(Tick.read(" ".join(words))), " ".join(words))
                else:
                    self.assert_raised(BadText(0, at), Tick.read, " ".join(words))


class TestPlanTexts(Errors, unittest.TestCase):

    def test_written(self):
        for plan in PLANS:
            self.assertEqual(str(plan), " / ".join(str(tick) for tick in plan))
        self.assertEqual(str(Plan(Tick(), Tick(mute=True), Tick((0,), (1, 2)))), "- / mute - / 0 , 1 2")

    def test_read_what_is_written(self):
        for plan in PLANS:
            self.assertEqual(Plan.read(str(plan)), plan)
            self.assertEqual(str(Plan.read(text=str(plan))), str(plan))
        self.assertEqual(len(Plan.read("0 / 0 / 0 / 0 / 0 / 0")), 6)

    def test_words_that_cannot_stand(self):
        wrong = [
            ("/", 0), ("0 /", 2), ("0 / ", 2), ("0 / /", 2), ("0 / 0 / 0 / 0 / 0 / 0 / 0", 11), ("0 / 9", 2),
            ("0 / 0 / 0 / 0 / 0 / 0 /", 11), ("0 , 1 / mute 0 1", 5), ("0 , 0 / 1", 2), ("0 / 0 , 0 /", 4),
            ("mute / 0", 1), ("0 / mute", 3), ("0 / mute /", 3), ("- / - -", 3), ("- 0 / -", 1), ("0 /1", 1),
            ("0 , / 1", 2), ("0 / - , 1", 3), ("0 // 1", 1), ("0 / , 1", 2), ("0\n/ 1", 0), ("0 /\n1", 1), ("0  / 1", 1),
            ("0 / 0 , 1 , 2 , 3 , 4 , 5 , 6", 13), ("0 , 1 , 2 , 3 , 4 , 5 / 0 , 0", 14), ("0 | 0", 1),
        ]
        for text, at in wrong:
            self.assert_raised(BadText(0, at), Plan.read, text)

    def test_changed_words(self):
        for text in ("0 / 0", "0 , 1 2 / mute 1 2 / -", "- / - / - / - / - / -", "mute 1 , 2 / 0"):
            for words in changed_words(text.split(" "), OTHERS):
                at = wanted_word(words, is_plan) if words else 0
                if at is None:
                    self.assertEqual(str(Plan.read(" ".join(words))), " ".join(words))
                else:
                    self.assert_raised(BadText(0, at), Plan.read, " ".join(words))

    def test_all_short_texts(self):
        for many in range(1, 6):
            for words in product(["0", "1", ",", "/", "-", "mute"], repeat=many):
                at = wanted_word(list(words), is_plan)
                if at is None:
                    self.assertEqual(str(Plan.read(" ".join(words))), " ".join(words))
                else:
                    self.assert_raised(BadText(0, at), Plan.read, " ".join(words))

    def test_all_sums(self):
        every = [ages for size in range(1, 10) for ages in combinations(range(9), size)]
        for ages in every:
            mute = ages[0] != 0
            self.assertEqual(Tick.read(str(Tick(ages, mute=mute))), Tick(ages, mute=mute))


if __name__ == "__main__":
    unittest.main()
