"""The examples of the document, in its order; a line that raises is told by its error."""

import unittest

SPACES = '''
>>> from laterepair.spaces import Space
>>> two = Space(6, 3)
>>> [two.rows, 5 in two, 4 in two, str(two + Space(1)), str(two & Space(5, 8)), Space(5).within(two), str(two.older()), str(Space(9, 12, 2).below(3))]
[(3, 5), True, False, '1 2 4', '5', True, '6 10', '2 5']
>>> [two.told, (two + Space(2)).told, two.rest(4), two.missed(2), Space(4).missed(2), str(Space.whole(2)), str(Space(0))]
[(), (0, 1, 2), 1, 7, None, '1 2', '-']
>>> Space.read("3 6")
raises BadText(0, 1)
'''
PLANS = '''
>>> from laterepair.plans import Plan, Tick, copies, parity
>>> pair = Plan(Tick((0,), (1, 2)))
>>> [str(pair), pair[0].masks, pair.ages, str(copies(1, 3)), str(parity(2)), parity(2).rate]
['0 , 1 2', (1, 6), 2, '0 , 1 , 3', '0 / 0 / mute 1 2', (3, 2)]
>>> [str(parity(2) >> 1), str(copies(1) | pair), Plan(pair[0], pair[0]).shortest() == pair, pair[0].packed({0: 5, 1: 6, 2: 3})]
['0 / mute 1 2 / 0', '0 , 1 , 1 2', True, (5, 5)]
>>> Tick((0,), (1, 1))
raises BadTick(1)
>>> Plan.read("0 , 1 / mute 0 1")
raises BadText(0, 5)
'''
RULES = '''
>>> from laterepair.rules import Burst, Machine, Rule, Total, Window
>>> pair = Burst(2, 3)
>>> [pair.places, pair.ways, Window(1, 3) == Burst(1, 2), Window(1, 3).ways, Machine((0, None)) == Total(0)]
[5, ((0, 1), (2, 3), (4, None), (2, None), (0, None)), True, ((0, 1), (2, None), (0, None)), True]
>>> [pair("xx...x"), pair("x.x"), "xx...xx" in pair, pair.first_refused("xx..x"), list(Total(1).all_losses(2)), Window(1, 3).many(4)]
[1, None, True, 4, ['..', '.x', 'x.'], 6]
>>> [str(pair & Total(3)), (pair & Total(3)).places, str(Rule.read("( burst 2 3 | window 1 2 )")), (Total(0) | Window(1, 1)).ways]
['( burst 2 3 & total 3 )', 11, '( burst 2 3 | window 1 2 )', ((0, 0),)]
>>> Rule.read("burst 2 0")
raises BadText(0, 2)
'''
INSIDE = '''
>>> from laterepair.inside import Inside, Outside, inside, shows_inside
>>> [bool(inside(Burst(1, 3), Window(1, 3))), inside(pair, Window(2, 6)) == Outside("x...xx"), inside(Total(1), Total(2)).pairs]
[True, True, ((0, 0), (1, 1))]
>>> [shows_inside(Total(1), Total(2), Inside(((0, 0), (1, 1)))), shows_inside(Total(1), Total(2), Inside(((0, 0),))), shows_inside(Total(2), Total(1), Outside("x..x"))]
[True, False, True]
'''
SEEN = '''
>>> from laterepair.seen import tight_burst, tight_machine, tight_total, tight_window
>>> [str(rule) for rule in (tight_burst("..xx.x", "x..."), tight_window(3, "..xx.x", "x..."), tight_total("..xx.x", "x..."))]
['burst 2 1', 'window 2 3', 'total 3']
>>> [str(tight_machine("x.x")), tight_burst("..."), str(tight_total()), "x..." in tight_machine("x.x"), "xx" in tight_machine("x.x")]
['machine 1 2 / 1 - / 3 - / 1 1', None, 'total 0', True, False]
'''
STANDINGS = '''
>>> from laterepair.plans import Plan, Tick
>>> from laterepair.rules import Machine
>>> from laterepair.spaces import Space
>>> from laterepair.standings import Standing, least, ordered, reached, standing_behind, start, step
>>> copy, single = Plan(Tick((0,), (1,))), Machine((0, 1), (0, None))
>>> [start(copy, single, 1) == Standing(0, 0, Space(1, 2)), standing_behind(copy, single, 1, "..x") == Standing(0, 1, Space(2)), standing_behind(copy, single, 1, "xx")]
[True, True, None]
>>> found = step(copy, single, 1, Standing(0, 1, Space(2)), False)
>>> [found.place, found.space.rows, step(copy, single, 1, found, True).space.rows, step(copy, single, 1, Standing(0, 1, Space(2)), True)]
[0, (1, 2), (2,), None]
>>> [[(one.phase, one.place, one.space.rows) for one in some] for some in (reached(copy, single, 1), least(copy, single, 1))]
[[(0, 0, (1, 2)), (0, 1, (2,))], [(0, 0, (1, 2)), (0, 1, (2,))]]
>>> pair = Plan(Tick((0,), (1, 2)))
>>> standing_behind(pair, Machine((0, 0)), 3, "....") == Standing(0, 0, Space.whole(4))
True
>>> [standing_behind(pair, Machine((0, 1), (0, 2), (0, None)), 3, losses).space.rows for losses in (".xx", ".xx.", ".xx..")]
[(4, 8), (1, 6, 8), (1, 2, 4, 8)]
>>> standing_behind(copy, single, 1, ".y")
raises BadLosses('.y')
'''
JUDGED = '''
>>> from laterepair.judged import InTime, Late, judge
>>> from laterepair.look_judged import shows_judged
>>> double = Machine((0, 1), (0, 2), (0, None))
>>> [bool(judge(copy, single, 1)), judge(copy, single, 1) == InTime(reached(copy, single, 1)), judge(copy, single, 0) == Late("x", (1,)), judge(copy, double, 1).losses]
[True, True, True, 'xx']
>>> [shows_judged(copy, double, 1, Late("xx", other)) for other in ((1, 0), (1, 1), (0, 1), (1, 0, 0))]
[True, True, False, False]
>>> [shows_judged(copy, double, 3, Late(".xx.", (0, 1, 0, 0))), shows_judged(copy, double, 2, Late(".xx.", (0, 1, 0, 0))), bool(judge(pair, double, 3)), judge(pair, double, 2).losses]
[False, True, False, 'xx.']
>>> thrice = Plan(Tick((0,), (1,), (2,)))
>>> [judge(thrice, single, 2) == InTime((Standing(0, 0, Space(1, 2, 4)), Standing(0, 1, Space(2, 4)))), shows_judged(thrice, single, 2, InTime((Standing(0, 0, Space(2, 4)), Standing(0, 1, Space(4))))), shows_judged(copy, single, 1, InTime((Standing(0, 0, Space(1, 2)),)))]
[True, True, False]
>>> judge(copy, single, 1, limit=1)
raises TooMany('standings', 1)
'''
DELAYS = '''
>>> from laterepair.delays import Delay, Fewest, fewest_losses, worst_delay, worst_delays
>>> from laterepair.look_delays import shows_delay, shows_fewest
>>> from laterepair.plans import Plan, Tick
>>> from laterepair.rules import Burst
>>> from laterepair.spaces import Space
>>> from laterepair.standings import Standing
>>> again, pairs = Plan(Tick((0,), (1,))), Plan(Tick((0,), (1, 2)))
>>> worst_delay(again, Burst(1, 1), 0) == Delay(1, (Standing(0, 0, Space(1, 2)), Standing(0, 1, Space(2))), "x")
True
>>> [worst_delays(again, Burst(1, 1)), worst_delays(again, Burst(2, 2)), worst_delays(pairs, Burst(2, 2)), worst_delays(Plan(Tick((0,)), Tick((1,), mute=True)), Burst(1, 1))]
[(1,), (None,), (3,), (1, 'mute')]
>>> [fewest_losses(again, 1).number, fewest_losses(again, 1).losses, fewest_losses(pairs, 3).number, fewest_losses(again, 1, Burst(1, 1)).number]
[2, 'xx', 3, None]
>>> [shows_delay(again, Burst(1, 1), 0, 8, worst_delay(again, Burst(1, 1), 0)), shows_fewest(again, 1, None, Fewest(2, "xx.", fewest_losses(again, 1).table))]
[True, True]
>>> worst_delay(Plan(Tick((1,), mute=True)), Burst(1, 1), 0)
raises NoPhase(0)
'''
COMPARED = '''
>>> from laterepair.compared import AtLeast, Pair, Parted, compare, order
>>> from laterepair.look_compared import shows_compared
>>> [compare(again, pairs, Burst(2, 2), 3) == Parted("xx.."), bool(compare(pairs, again, Burst(2, 2), 3)), order(again, pairs, Burst(2, 2), 3), order(again, again >> 1, Burst(2, 2), 3)]
[True, True, 'worse', 'alike']
>>> compare(again, again, Total(0), 0) == AtLeast((Pair(0, 0, Space(1, 2), Space(1, 2)),))
True
>>> shows_compared(pairs, again, Burst(2, 2), 3, compare(pairs, again, Burst(2, 2), 3))
True
'''
BETTER = '''
>>> from laterepair.better import first_plan, needless, slim, spare, trimmed
>>> from laterepair.look_better import shows_first
>>> from laterepair.plans import Plan
>>> [needless(Plan.read("0 , 1 , 0 1 / mute 1 , 2")), str(trimmed(Plan.read("0 , 1 , 0 1")))]
[((0, 1), (0, 2), (1, 1)), '0 , 1']
>>> one = Burst(1, 1)
>>> [spare(Plan.read("0 , 1 , 2"), one, 1), str(slim(Plan.read("0 , 1 , 2"), one, 1)), spare(Plan.read("0"), one, 1)]
[((0, 2),), '0 , 1', ()]
>>> found = first_plan(2, 1, one, 1)
>>> [bool(found), str(found.plan), [(str(plan), paper.losses) for plan, paper in found.losers], shows_first(2, 1, one, 1, found), bool(first_plan(1, 1, Burst(2, 1), 1))]
[True, '0 , 1', [('0', 'x.')], True, False]
'''
STREAMS = '''
>>> from laterepair.streams import Packet, Receiver, Sender, play
>>> sender, receiver = Sender(pair), Receiver(pair, 3)
>>> packets = [sender.send(row) for row in (5, 6, 3, 9)]
>>> [str(packet) for packet in packets]
['0 : 5 0', '1 : 6 5', '2 : 3 3', '3 : 9 5']
>>> [receiver.hear(packets[2]), receiver.known(2).rows, receiver.hear(packets[3]), receiver.told]
[((2, 3),), (1, 6), ((0, 5), (1, 6), (3, 9)), {0: 5, 1: 6, 2: 3, 3: 9}]
>>> [play(pair, [5, 6, 3, 9], "xx.x", 3).late, play(pair, [5, 6, 3, 9], "xx.xx", 3).late, receiver.worth(9), str(receiver.undo())]
[(), (0,), 12, 'None']
>>> receiver.hear(Packet(3, (9,)))
raises BadPacket('parts')
'''
BENCH = '''
>>> from laterepair.bench import Bench
>>> from laterepair.plans import Plan, Tick
>>> bench = Bench(Plan(Tick((0,), (1,))))
>>> [bench.add(Tick((0,))), bench.put(1, (1, 2)), str(bench.now), len(bench), str(bench[0])]
[1, None, '0 , 1 / 0 , 1 2', 2, '0 , 1']
>>> bench[0] = Tick((0,), mute=False)
>>> [str(bench.drop(1)), str(bench.now), bench.undo(), bench.undo(), str(bench.now), len(bench)]
['0 , 1 2', '0', 'drop', 'set', '0 , 1 / 0 , 1 2', 2]
>>> bench.tried(lambda same: (same.turn(1), str(same.now)))
(None, '0 , 1 2 / 0 , 1')
>>> bench.drop(2)
raises NoPhase(2)
'''
TEXTS = '''
>>> from laterepair.judged import InTime, Late
>>> from laterepair.reader import read_packets, read_setting, read_verdict
>>> from laterepair.rules import Burst
>>> from laterepair.standings import Standing
>>> from laterepair.texts import setting_text, verdict_text
>>> page = setting_text(Plan(Tick((0,), (1,))), Burst(1, 1), 1)
>>> [page.split("\\n"), setting_text(*read_setting(page)) == page, read_packets("-")]
[['plan 0 , 1', 'rule burst 1 1', 'delay 1'], True, ()]
>>> [read_verdict("late\\nxx\\n1 0") == Late("xx", (1, 0)), verdict_text(InTime((Standing(0, 1, Space(2)),))).split("\\n")]
[True, ['in time', '0 1 2']]
>>> read_setting("plan 0 , 1\\nrule burst 1 1\\ndelay 9")
raises BadText(2, 1)
>>> read_verdict("late\\nxx\\n1")
raises BadText(2, 1)
'''
DESK = '''
>>> from laterepair.desk import Desk
>>> desk = Desk()
>>> desk.run("plan a 0 , 1", "plan b 0 , 1 2", "rule one burst 1 1", "rule two burst 2 2", "judge a one 1", "judge a two 1", "worst b two", "worst a two", "fewest b 3", "fewest a 1 one")
['ok', 'ok', 'ok', 'ok', 'in time 2', 'late 2', '3', '-', '3', '-']
>>> desk.run("order a b two 3", "join c a b", "show c", "lets one xx", "inside one two", "play a .xx.. 1", "known a .xx.. 1", "names", "undo", "names", "tell two")
['worse', 'ok', '0 , 1 , 1 2', 'no 1', 'outside x.x', '1', '1 2', 'a b c / one two', 'ok', 'a b / one two', 'burst 2 2']
>>> [len(desk), desk("put a 0 1 2"), desk("show a"), desk("spare a one 1"), desk("undo")]
[4, 'ok', '0 , 1 , 1 2', '0:1 0:2', 'ok']
>>> desk("judge a one 9")
raises BadCommand(3)
>>> desk("judge z one 1")
raises NoName('z')
'''
ALL = (SPACES, PLANS, RULES, INSIDE, SEEN, STANDINGS, JUDGED, DELAYS, COMPARED, BETTER, STREAMS, BENCH, TEXTS, DESK)


def parts_of(text):
    """The pairs of what stands behind `>>> ` and of the line below it, None if there is none."""
    lines = text.strip().split("\n")
    for at, line in enumerate(lines):
        if line.startswith(">>> "):
            told = at + 1 < len(lines) and not lines[at + 1].startswith(">>> ")
            yield line[4:], lines[at + 1] if told else None


def answer(source, names):
    """What a line of an example shows: its value as Python writes it, or the error that it raises."""
    try:
        return repr(eval(source, names))
    except ValueError as error:
        return f"raises {error!r}"


class TestExamples(unittest.TestCase):

    def test_examples(self):
        names = {}
        for text in ALL:
            for source, wanted in parts_of(text):
                if wanted is None:
                    exec(source, names)
                else:
                    self.assertEqual(answer(source, names), wanted, source)


if __name__ == "__main__":
    unittest.main()
