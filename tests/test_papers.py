"""The papers: what they keep, when they are equal, and what their truth is."""

import unittest
from itertools import product

from laterepair.better import Barred, Found
from laterepair.compared import AtLeast, Pair, Parted
from laterepair.delays import Delay, Fewest
from laterepair.judged import InTime, Late
from laterepair.spaces import Space
from laterepair.standings import Standing
from laterepair.streams import Packet
from laterepair.verdicts import Verdict
from tests.helpers import ANY

PAPERS = {
    Standing: ("phase", "place", "space"), InTime: ("table",), Late: ("losses", "other"),
    Delay: ("number", "table", "losses"), Fewest: ("number", "losses", "table"),
    Pair: ("phase", "place", "first", "second"), AtLeast: ("table",), Parted: ("losses",),
    Found: ("plan", "table", "losers"), Barred: ("losers",), Packet: ("tick", "parts"),
}
TRUTHS = {InTime: True, Late: False, AtLeast: True, Parted: False, Found: True, Barred: False}


class TestPapers(unittest.TestCase):

    def test_what_they_keep(self):
        for made, names in PAPERS.items():
            for value in ANY:
                for at, name in enumerate(names):
                    parts = [7] * len(names)
                    parts[at] = value
                    named = dict(zip(names, parts))
                    for paper in (made(*parts), made(**named), made(parts[0], **dict(list(named.items())[1:]))):
                        self.assertIs(getattr(paper, name), value)
                        self.assertEqual(set(vars(paper)), set(names))

    def test_equal_parts(self):
        for made, names in PAPERS.items():
            for one, other in product(ANY, repeat=2):
                for at in range(len(names)):
                    first, second = ["a"] * len(names), ["a"] * len(names)
                    first[at], second[at] = one, other
                    self.assertIs(made(*first) == made(*second), one == other, (made, one, other))
                    self.assertIs(made(*first) != made(*second), one != other)

    def test_equal_as_python_compares(self):
        self.assertTrue(Standing(0, True, Space(3, 5)) == Standing(False, 1, Space(6, 3)))
        self.assertTrue(InTime((Standing(0, 0, Space(1)),)) == InTime((Standing(0, 0, Space(1)),)))
        self.assertFalse(InTime((Standing(0, 0, Space(1)),)) == InTime([Standing(0, 0, Space(1))]))
        self.assertFalse(InTime((Standing(0, 0, Space(1)),)) == InTime((Standing(0, 0, Space(2)),)))
        self.assertTrue(Late("x", (1,)) == Late("x", (True,)))
        self.assertFalse(Late("x", (1,)) == Late("x", [1]))

    def test_other_classes(self):
        for made, names in PAPERS.items():
            paper = made(*["x"] * len(names))
            others = [other(*["x"] * len(parts)) for other, parts in PAPERS.items()]
            for value in ANY + others:
                if type(value) is not made:
                    self.assertFalse(paper == value)
                    self.assertFalse(value == paper)
            self.assertTrue(paper == paper)

    def test_truth(self):
        for made, names in PAPERS.items():
            for value in ANY:
                self.assertIs(bool(made(*[value] * len(names))), TRUTHS.get(made, True))
                self.assertIs(isinstance(made(*[value] * len(names)), Verdict), made in TRUTHS)


if __name__ == "__main__":
    unittest.main()
