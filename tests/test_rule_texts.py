"""Texts of rules, written and read."""

import re
import unittest
from itertools import product

from laterepair.errors import BadRule, BadText, TooMany
from laterepair.rules import Both, Burst, Either, Machine, Rule, Total, Window
from tests.helpers import NO_STRINGS, Errors, changed_words, wrong_word

INDEX = "([0-9]|[1-3][0-9])"
PAIR = f"{INDEX} ({INDEX}|-)"
SIMPLE = re.compile(f"burst [1-8] ([1-9]|1[0-2])|window [0-6] [1-6]|total ([0-9]|1[0-2])|machine {PAIR}( / {PAIR})*")
OTHERS = ["", "0", "1", "6", "7", "8", "9", "12", "13", "39", "40", "00", "01", "+1", "-1", "-", "(", ")", "&", "|",
          "/", "burst", "window", "total", "machine", "Burst", "x", "1\n", "((", "()"]
BEGUN = [[], ["1"], ["1", "1"], ["-"], ["total", "0"]]
CLOSED = [[")"], ["&", "total", "0", ")"]]
ENDINGS = [[*begun, *closed] for begun in BEGUN for closed in [
    [], *CLOSED, *[[*one, *other] for one, other in product(CLOSED, repeat=2)],
    *[[*one, *other, *third] for one, other, third in product(CLOSED, repeat=3)]]]


def is_rule(words):
    """Whether these words are the text of a rule: rules in brackets become a word, from the inside."""
    text = " ".join(words)
    while text != "R":
        shorter = re.sub(r"(?<![^ ])\( R [&|] R \)(?![^ ])", "R", text)
        if shorter == text:
            shorter = re.sub(f"(?<![^ ])({SIMPLE.pattern})(?![^ ])", "R", text)
        if shorter == text or re.search("(?<![^ ])R(?![^ ])", " ".join(words)):
            return False
        text = shorter
    return True


RULES = [
    Burst(2, 3), Burst(8, 12), Window(1, 4), Window(0, 1), Window(6, 6), Total(0), Total(12), Machine((0, None)),
    Machine((0, 1), (0, None)), Machine(*[(39, None)] * 40), Machine((0, 1), (2, 2), (1, None)),
    Total(1) & Total(1), Burst(1, 1) | Total(2), (Burst(1, 1) & Total(2)) | Machine((0, 1), (0, None)),
    Total(1) | (Total(1) | (Total(1) & Window(1, 2))), (Total(0) & Total(1)) & (Total(2) | Total(3)),
]


def nested(text, deep, first):
    """A text of rules put together so deep, on the first or the second side."""
    for _ in range(deep):
        text = f"( {text} & total 1 )" if first else f"( total 1 | {text} )"
    return text


class TestRuleTexts(Errors, unittest.TestCase):

    def test_written(self):
        self.assertEqual([str(rule) for rule in RULES[:9]],
                         ["burst 2 3", "burst 8 12", "window 1 4", "window 0 1", "window 6 6", "total 0", "total 12",
                          "machine 0 -", "machine 0 1 / 0 -"])
        self.assertEqual([str(rule) for rule in RULES[10:]],
                         ["machine 0 1 / 2 2 / 1 -", "( total 1 & total 1 )", "( burst 1 1 | total 2 )",
                          "( ( burst 1 1 & total 2 ) | machine 0 1 / 0 - )",
                          "( total 1 | ( total 1 | ( total 1 & window 1 2 ) ) )",
                          "( ( total 0 & total 1 ) & ( total 2 | total 3 ) )"])
        self.assertEqual(str(RULES[9]), "machine " + " / ".join(["39 -"] * 40))
        self.assertEqual(str(Window(0, 5)), "window 0 5")

    def test_read_what_is_written(self):
        for rule in RULES:
            read = Rule.read(str(rule))
            self.assertIs(type(read), type(rule))
            self.assertEqual(read, rule)
            self.assertEqual(str(read), str(rule))
        self.assertEqual(str(Total(1).read("burst 1 1")), "burst 1 1")
        self.assertEqual(Burst.read(text="machine 0 1 / 0 -").pairs, ((0, 1), (0, None)))
        read = Rule.read("( burst 2 3 | ( window 1 2 & total 4 ) )")
        self.assertEqual((type(read), type(read.one), type(read.other)), (Either, Burst, Both))
        self.assertEqual((read.one.gap, read.other.one.width, read.other.other.most), (3, 2, 4))

    def test_all_numbers(self):
        for word, made, first, second in (("burst", Burst, (1, 8), (1, 12)), ("window", Window, (0, 6), (1, 6))):
            for one, other in product(range(-1, 14), repeat=2):
                text = f"{word} {one} {other}"
                if not first[0] <= one <= first[1]:
                    self.assert_raised(BadText(0, 1), Rule.read, text)
                elif not second[0] <= other <= second[1]:
                    self.assert_raised(BadText(0, 2), Rule.read, text)
                else:
                    self.assertEqual(Rule.read(text), made(one, other))
        for most in range(13):
            self.assertEqual(Rule.read(f"total {most}"), Total(most))
        self.assert_raised(BadText(0, 1), Rule.read, "total 13")

    def test_no_text(self):
        for value in [*NO_STRINGS, ""]:
            self.assert_raised(BadText(0, 0), Rule.read, value)

    def test_words_that_cannot_stand(self):
        wrong = [
            ("burst", 1), ("burst 2", 2), ("burst 2 0", 2), ("burst 0 1", 1), ("burst 2 3 ", 3), ("burst 2 3 1", 3),
            ("burst  2 3", 1), (" burst 2 3", 0), ("burst 02 3", 1), ("burst 2 3\n", 2), ("Burst 2 3", 0),
            ("window 1", 2), ("window 7 1", 1), ("total", 1), ("total -", 1), ("total 1 & total 1", 2), ("machine", 1),
            ("machine 0", 2), ("machine 40 -", 1), ("machine 0 40", 2), ("machine - 0", 1), ("machine 0 - /", 4),
            ("machine 0 - / 0", 5), ("machine 0 - 0", 3), ("machine 0 - / -", 4), ("machine /", 1), ("machine 0 /", 2),
            ("machine 0 - // 0 -", 3), ("(", 1), ("( )", 1), ("( total 1", 3), ("( total 1 )", 3), ("( total 1 &", 4),
            ("( total 1 & )", 4), ("( total 1 & total 1", 6), ("( total 1 & total 1 & total 1 )", 6), (")", 0),
            ("( total 1 & total 1 ) )", 7), ("( total 1 & total 1 ) |", 7), ("( total 1 / total 1 )", 3), ("&", 0),
            ("( machine 0 - | / 0 - )", 5), ("( machine 0 - / | total 1 )", 5), ("( burst 1 1 total 1 )", 4), ("-", 0),
            ("(total 1 & total 1 )", 0), ("( total 1 & total 1)", 5), ("( total 1 && total 1 )", 3), ("0", 0),
            ("total 1 )", 2), ("( total 1 & total 1 )\n", 6), ("machine 0 -\n/ 0 -", 2), ("rule", 0),
        ]
        for text, at in wrong:
            self.assert_raised(BadText(0, at), Rule.read, text)

    def test_changed_words(self):
        for text in ("burst 2 3", "window 1 4", "total 2", "machine 0 1 / 0 -", "( burst 2 3 & total 1 )",
                     "( machine 0 1 / 0 - | total 1 )", "( ( total 1 & total 0 ) | window 1 1 )",
                     "( total 1 | ( burst 1 1 & total 0 ) )"):
            for words in changed_words(text.split(" "), OTHERS):
                at = wrong_word(words, is_rule, ENDINGS) if words else 0
                changed = " ".join(words)
                if at is not None:
                    self.assert_raised(BadText(0, at), Rule.read, changed)
                    continue
                try:
                    self.assertEqual(str(Rule.read(changed)), changed)
                except BadRule:
                    # All words can stand, but an index is that of no pair.
                    self.assertIn("machine", changed)
                except TooMany as error:
                    self.assertEqual((error.what, "(" in changed), ("places", True))

    def test_open_brackets(self):
        for first in (True, False):
            text = nested("total 1", 20, first)
            self.assertEqual(str(Rule.read(text)), text)
            self.assertEqual(Rule.read(text), Total(1))
        self.assert_raised(BadText(0, 20), Rule.read, nested("total 1", 21, True))
        self.assert_raised(BadText(0, 80), Rule.read, nested("total 1", 21, False))
        self.assert_raised(BadText(0, 20), Rule.read, " ".join(["("] * 30))
        # Brackets that are closed again do not count.
        wide = nested("( total 1 & total 1 )", 19, True)
        for _ in range(10):
            self.assertEqual(str(Rule.read(wide)), wide)
        self.assertEqual(str(Rule.read(f"( {nested('total 1', 19, True)} | {nested('total 1', 19, False)} )")),
                         f"( {nested('total 1', 19, True)} | {nested('total 1', 19, False)} )")

    def test_written_but_not_read(self):
        rule = Total(1)
        for _ in range(21):
            rule = rule & Total(1)
        self.assertEqual(str(rule), nested("total 1", 21, True))
        self.assert_raised(BadText(0, 20), Rule.read, str(rule))
        for _ in range(3000):
            rule = Total(1) | rule
        self.assertEqual(str(rule), nested(nested("total 1", 21, True), 3000, False))

    def test_what_the_classes_raise(self):
        self.assert_raised(BadRule(0), Rule.read, "machine 1 -")
        self.assert_raised(BadRule(0), Rule.read, "machine 39 39")
        self.assert_raised(BadRule(1), Rule.read, "machine 0 1 / 0 2")
        forty = " / ".join(["39 0"] * 40)
        self.assertEqual(len(Rule.read(f"machine {forty}").pairs), 40)
        self.assert_raised(TooMany("pairs", 40), Rule.read, f"machine {forty} / 0 -")
        self.assert_raised(TooMany("pairs", 40), Rule.read, f"machine {forty} / 0 - / 0 -")
        self.assert_raised(TooMany("places", 40), Rule.read, "( burst 8 12 & total 12 )")
        self.assert_raised(BadText(0, 9), Rule.read, "( machine 1 - & burst 8 12 ) )")

    def test_first_part_first(self):
        places, pairs = "( burst 8 12 & total 12 )", "machine 5 5"
        self.assert_raised(BadRule(0), Rule.read, f"( {pairs} & {places} )")
        self.assert_raised(TooMany("places", 40), Rule.read, f"( {places} & {pairs} )")
        self.assert_raised(BadRule(1), Rule.read, "( machine 0 0 / 7 0 | machine 1 0 )")
        self.assert_raised(BadRule(2), Rule.read, "( ( total 1 & machine 0 0 / 0 0 / 3 0 ) | machine 1 0 )")
        self.assert_raised(TooMany("places", 40), Rule.read, f"( ( total 1 & {places} ) | ( {pairs} & total 1 ) )")


if __name__ == "__main__":
    unittest.main()
