"""The examples of the document, in its order; a line that raises is told by its error."""

import unittest

SPACES = '''
>>> from laterepair.spaces import Space
>>> two = Space(6, 3)
>>> [two.rows, 5 in two, 4 in two, str(two + Space(1)), str(two & Space(5, 8)), Space(5).within(two), str(two.older()), str(Space(9, 12, 2).below(3))]
[(3, 5), True, False, '1 2 4', '5', True, '6 10', '2 5']
>>> [two.told, (two + Space(2)).told, two.rest(4), two.missed(2), Space(4).missed(2), str(Space.whole(2)), str(Space(0))]
[(), (0, 1, 2), 1, 7, None, '1 2', '-']
>>> Space.read("3 6")
raises BadText(0, 1)
'''
PLANS = '''
>>> from laterepair.plans import Plan, Tick, copies, parity
>>> pair = Plan(Tick((0,), (1, 2)))
>>> [str(pair), pair[0].masks, pair.ages, str(copies(1, 3)), str(parity(2)), parity(2).rate]
['0 , 1 2', (1, 6), 2, '0 , 1 , 3', '0 / 0 / mute 1 2', (3, 2)]
>>> [str(parity(2) >> 1), str(copies(1) | pair), Plan(pair[0], pair[0]).shortest() == pair, pair[0].packed({0: 5, 1: 6, 2: 3})]
['0 / mute 1 2 / 0', '0 , 1 , 1 2', True, (5, 5)]
>>> Tick((0,), (1, 1))
raises BadTick(1)
>>> Plan.read("0 , 1 / mute 0 1")
raises BadText(0, 5)
'''
RULES = '''
>>> from laterepair.rules import Burst, Machine, Rule, Total, Window
>>> pair = Burst(2, 3)
>>> [pair.places, pair.ways, Window(1, 3) == Burst(1, 2), Window(1, 3).ways, Machine((0, None)) == Total(0)]
[5, ((0, 1), (2, 3), (4, None), (2, None), (0, None)), True, ((0, 1), (2, None), (0, None)), True]
>>> [pair("xx...x"), pair("x.x"), "xx...xx" in pair, pair.first_refused("xx..x"), list(Total(1).all_losses(2)), Window(1, 3).many(4)]
[1, None, True, 4, ['..', '.x', 'x.'], 6]
>>> [str(pair & Total(3)), (pair & Total(3)).places, str(Rule.read("( burst 2 3 | window 1 2 )")), (Total(0) | Window(1, 1)).ways]
['( burst 2 3 & total 3 )', 11, '( burst 2 3 | window 1 2 )', ((0, 0),)]
>>> Rule.read("burst 2 0")
raises BadText(0, 2)
'''
INSIDE = '''
>>> from laterepair.inside import Inside, Outside, inside, shows_inside
>>> [bool(inside(Burst(1, 3), Window(1, 3))), inside(pair, Window(2, 6)) == Outside("x...xx"), inside(Total(1), Total(2)).pairs]
[True, True, ((0, 0), (1, 1))]
>>> [shows_inside(Total(1), Total(2), Inside(((0, 0), (1, 1)))), shows_inside(Total(1), Total(2), Inside(((0, 0),))), shows_inside(Total(2), Total(1), Outside("x..x"))]
[True, False, True]
'''


def parts_of(text):
    """The pairs of what stands behind `>>> ` and of the line below it, None if there is none."""
    lines = text.strip().split("\n")
    for at, line in enumerate(lines):
        if line.startswith(">>> "):
            told = at + 1 < len(lines) and not lines[at + 1].startswith(">>> ")
            yield line[4:], lines[at + 1] if told else None


def answer(source, names):
    """What a line of an example shows: its value as Python writes it, or the error that it raises."""
    try:
        return repr(eval(source, names))
    except ValueError as error:
        return f"raises {error!r}"


class TestExamples(unittest.TestCase):

    def test_examples(self):
        names = {}
        for text in (SPACES, PLANS, RULES, INSIDE):
            for source, wanted in parts_of(text):
                if wanted is None:
                    exec(source, names)
                else:
                    self.assertEqual(answer(source, names), wanted, source)


if __name__ == "__main__":
    unittest.main()
