"""Desks: each line by each way to tell it, against the functions that it stands for."""

import unittest

from laterepair.better import spare, trimmed
from laterepair.compared import order
from laterepair.delays import fewest_losses, worst_delays
from laterepair.desk import Desk
from laterepair.errors import BadCommand, BadPlan, BadRule, BadTick, NoName, NoPhase, RepairError, TooMany
from laterepair.inside import inside
from laterepair.judged import judge
from laterepair.plans import Plan
from laterepair.rules import Rule
from laterepair.streams import play
from tests.helpers import ANY, NO_STRINGS, Errors, changed_words, same, wrong_in
from tests.live import chosen, some_losses

PLANS = {"a": "0 , 1", "b": "0 , 1 2", "c": "0 / mute 1 2", "d": "0 , 1 , 0 1 / mute 1 , 2", "one": "0", "full": "0 , 1 , 2 , 3 , 4 , 5",
         "e": "0 , 1 / 0 / 0 , 2", "mute": "mute 1", "late": "-"}
RULES = {"one": "burst 1 1", "two": "burst 2 2", "r": "total 2", "a": "window 1 3", "free": "machine 0 0",
         "none": "total 0", "mix": "( burst 2 1 & ( total 3 | window 1 2 ) )"}
LINES = [
    "plan a 0 , 1 / mute 1 2", "rule r machine 0 1 / 0 -", "rule r ( burst 1 2 & total 3 )", "join x a b",
    "both x one two", "either x one two", "turn a 7", "trim a", "put a 0 1 2", "undo", "show a", "tell r", "names",
    "judge a one 1", "worst a one", "fewest a 1", "fewest a 1 one", "order a b two 3", "spare a one 1",
    "inside one two", "lets one x.x", "play a .xx.. 1", "known a .xx.. 1", "known a - 8", "put a 5 0 3 8", "turn a 99"]


def desk_of():
    """A desk with all these plans and rules."""
    desk = Desk()
    for name, text in PLANS.items():
        desk.say(f"plan {name} {text}")
    for name, text in RULES.items():
        desk.say(f"rule {name} {text}")
    return desk


def state(desk):
    return ({name: str(plan) for name, plan in desk.plans.items()},
            {name: str(rule) for name, rule in desk.rules.items()}, len(desk))


def is_number(word, most):
    return word in [str(number) for number in range(most + 1)]


def is_name(word):
    return 1 <= len(word) <= 8 and set(word) <= set("abcdefghijklmnopqrstuvwxyz")


def is_losses(word):
    return word == "-" or 1 <= len(word) <= 400 and set(word) <= set(".x")


# For each first word what its words must be: n a name, T a delay, N a turn, P a phase, L losses.
SHAPES = {
    "join": "nnn", "both": "nnn", "either": "nnn", "turn": "nN", "trim": "n", "put": "nPS", "undo": "", "show": "n",
    "tell": "n", "names": "", "judge": "nnT", "worst": "nn", "fewest": "nT", "order": "nnnT", "spare": "nnT",
    "inside": "nn", "lets": "nL", "play": "nLT", "known": "nLT", "plan": "nR", "rule": "nR",
}
FITS = {"n": is_name, "T": lambda word: is_number(word, 8), "N": lambda word: is_number(word, 99),
        "P": lambda word: is_number(word, 5), "L": is_losses}


def wrong_sum(words, at):
    """The first word that is no age above the one ahead of it, from at on."""
    for place in range(at, max(len(words), at + 1)):
        if place == len(words) or not is_number(words[place], 8):
            return place
        if place > at and int(words[place]) <= int(words[place - 1]):
            return place
    return None


def wrong_word_of(line):
    """The index of the word that cannot stand in a line, None if all can."""
    words = line.split(" ")
    if words[0] not in SHAPES:
        return 0
    shape = SHAPES[words[0]]
    if words[0] == "fewest" and len(words) > 3:
        shape = "nTn"
    for at, kind in enumerate(shape, 1):
        if kind == "S":
            return wrong_sum(words, at)
        if kind == "R":
            return wrong_in(words, at, Plan.read if words[0] == "plan" else Rule.read)
        if at == len(words) or not FITS[kind](words[at]):
            return at
    return len(shape) + 1 if len(words) > len(shape) + 1 else None


class TestAnswers(Errors, unittest.TestCase):

    def assert_answer(self, line, wanted, desk=None):
        """By say, by calling the desk, and by run, in trials."""
        desk = desk_of() if desk is None else desk
        for tell in (lambda one: one.say(line), lambda one: one.say(line=line), lambda one: one(line),
                     lambda one: one(line=line), lambda one: one.run(line)[0]):
            told = desk.tried(lambda one: (tell(one), state(one)))
            self.assertTrue(same(told[0], wanted), (line, told[0], wanted))
        return told[1]

    def plan(self, name):
        return Plan.read(PLANS[name])

    def rule(self, name):
        return Rule.read(RULES[name])

    def test_texts(self):
        for name, text in PLANS.items():
            self.assert_answer(f"show {name}", text)
        for name, text in RULES.items():
            self.assert_answer(f"tell {name}", text)

    def test_names(self):
        desk = Desk()
        for line, wanted in ((None, "- / -"), ("plan b 0", "b / -"), ("plan a 0", "a b / -"), ("rule z total 1", "a b / z"),
                             ("rule aa total 1", "a b / aa z"), ("plan ab 0", "a ab b / aa z"), ("undo", "a b / aa z")):
            if line:
                self.assertEqual(desk(line), "ok")
            self.assert_answer("names", wanted, desk)
        desk = Desk()
        desk.say("rule q total 1")
        self.assert_answer("names", "- / q", desk)

    def test_judge(self):
        desk = desk_of()
        seen = set()
        for name in PLANS:
            for rule in RULES:
                for delay in (0, 1, 2, 4):
                    verdict = judge(self.plan(name), self.rule(rule), delay)
                    wanted = f"in time {len(verdict.table)}" if verdict else f"late {len(verdict.losses)}"
                    seen.add(wanted)
                    self.assert_answer(f"judge {name} {rule} {delay}", wanted, desk)
        self.assertGreater(len(seen), 8)

    def test_worst_and_fewest(self):
        desk = desk_of()
        seen = set()
        for name in PLANS:
            for rule in RULES:
                numbers = worst_delays(self.plan(name), self.rule(rule))
                wanted = " ".join("-" if number is None else str(number) for number in numbers)
                seen |= set(wanted.split(" "))
                self.assert_answer(f"worst {name} {rule}", wanted, desk)
                for delay in (0, 2):
                    number = fewest_losses(self.plan(name), delay, self.rule(rule)).number
                    self.assert_answer(f"fewest {name} {delay} {rule}", "-" if number is None else str(number), desk)
            for delay in (0, 2, 3):
                number = fewest_losses(self.plan(name), delay).number
                self.assert_answer(f"fewest {name} {delay}", "-" if number is None else str(number), desk)
        self.assertGreaterEqual(seen, {"-", "mute", "0", "1"})

    def test_order(self):
        desk = desk_of()
        seen = set()
        for name in ("a", "b", "one", "full", "late"):
            for other in ("a", "b", "one"):
                for rule in ("two", "a", "none"):
                    word = order(self.plan(name), self.plan(other), self.rule(rule), 3)
                    seen.add(word)
                    self.assert_answer(f"order {name} {other} {rule} 3", word, desk)
        self.assertGreater(len(seen), 2)
        self.assert_raised(BadPlan("mute"), desk.say, "order a c one 1")

    def test_spare(self):
        desk = desk_of()
        for name in PLANS:
            for rule, delay in (("one", 1), ("none", 0), ("r", 2), ("free", 3)):
                pairs = spare(self.plan(name), self.rule(rule), delay)
                wanted = " ".join(f"{phase}:{at}" for phase, at in pairs) or "-"
                self.assert_answer(f"spare {name} {rule} {delay}", wanted, desk)

    def test_inside_and_lets(self):
        desk = desk_of()
        for rule in RULES:
            for other in RULES:
                verdict = inside(self.rule(rule), self.rule(other))
                self.assert_answer(f"inside {rule} {other}", "inside" if verdict else f"outside {verdict.losses}", desk)
            for losses in ("-", "x", "xx", "x.x", ".x..xx", "..." * 100, "x" * 400):
                at = self.rule(rule).first_refused("" if losses == "-" else losses)
                self.assert_answer(f"lets {rule} {losses}", "yes" if at is None else f"no {at}", desk)

    def test_play_and_known(self):
        desk = desk_of()
        chooser = chosen(41)
        for name in PLANS:
            for losses in ["", "x" * 400, "." * 400, *[some_losses(chooser, chooser.randint(1, 12), 0.5) for _ in range(9)]]:
                for delay in (0, 1, 4, 8):
                    told = play(self.plan(name), [], losses, delay)
                    wanted = " ".join(str(tick) for tick in told.late) or "-"
                    self.assert_answer(f"play {name} {losses or '-'} {delay}", wanted, desk)
                    self.assert_answer(f"known {name} {losses or '-'} {delay}", str(told.known(delay)), desk)
        self.assert_answer("known a - 2", "1 2 4", desk)
        self.assert_answer("known late xxx 2", "-", desk)

    def test_new_plans(self):
        for line, name, plan in (
                ("plan z 0 / mute 1", "z", Plan.read("0 / mute 1")), ("plan a -", "a", Plan.read("-")),
                ("join z a b", "z", self.plan("a") | self.plan("b")), ("join a a e", "a", self.plan("a") | self.plan("e")),
                ("join b b b", "b", self.plan("b")), ("join a b a", "a", self.plan("b") | self.plan("a")),
                ("turn e 1", "e", self.plan("e") >> 1), ("turn e 0", "e", self.plan("e")),
                ("turn c 99", "c", self.plan("c") >> 99), ("trim d", "d", trimmed(self.plan("d"))),
                ("trim a", "a", self.plan("a")), ("put a 0 1 2", "a", Plan.read("0 , 1 , 1 2")),
                ("put c 1 8", "c", Plan.read("0 / mute 1 2 , 8")), ("put e 2 0 1 2 3 4 5 6 7 8", "e",
                                                                    Plan.read("0 , 1 / 0 / 0 , 2 , 0 1 2 3 4 5 6 7 8"))):
            plans, rules, many = self.assert_answer(line, "ok")
            self.assertEqual(plans, {**PLANS, name: str(plan)})
            self.assertEqual((rules, many), (RULES, len(PLANS) + len(RULES) + 1))

    def test_new_rules(self):
        for line, name, rule in (
                ("rule z total 3", "z", Rule.read("total 3")), ("rule a machine 0 -", "a", Rule.read("machine 0 -")),
                ("both z one two", "z", self.rule("one") & self.rule("two")),
                ("either a one r", "a", self.rule("one") | self.rule("r")),
                ("both one one one", "one", self.rule("one") & self.rule("one")),
                ("either z two one", "z", self.rule("two") | self.rule("one"))):
            plans, rules, many = self.assert_answer(line, "ok")
            self.assertEqual(rules, {**RULES, name: str(rule)})
            self.assertEqual((plans, many), (PLANS, len(PLANS) + len(RULES) + 1))

    def test_a_plan_and_a_rule_of_one_name(self):
        desk = desk_of()
        self.assertEqual([desk("show one"), desk("tell one"), desk("judge one one 0")], ["0", "burst 1 1", "late 1"])
        desk("plan one 0 , 1")
        self.assertEqual([desk("show one"), desk("tell one")], ["0 , 1", "burst 1 1"])
        desk("rule one total 0")
        self.assertEqual([desk("show one"), desk("tell one")], ["0 , 1", "total 0"])
        desk("undo")
        self.assertEqual([desk("show one"), desk("tell one")], ["0 , 1", "burst 1 1"])


class TestErrors(Errors, unittest.TestCase):

    def test_words_that_cannot_stand(self):
        desk = desk_of()
        before = state(desk)
        others = ["", "a", "r", "A", "abcdefghi", "-", "0", "6", "9", "10", "99", "100", "01", "x", ".", "/", ",", "mute", "ok",
                  "x" * 400, "x" * 401, "total", "a1", "a\n"]
        seen = {True: 0, False: 0}
        for line in LINES:
            for words in changed_words(line.split(" "), others):
                near = " ".join(words)
                wrong = wrong_word_of(near)
                seen[wrong is None] += 1
                for tell in (desk.say, desk, desk.run):
                    if wrong is not None:
                        self.assert_raised(BadCommand(wrong), tell, near)
                        self.assertEqual(state(desk), before)
                if wrong is None:
                    try:
                        told = desk.tried(lambda one: one.say(near))
                        self.assertIs(type(told), str)
                    except BadCommand as error:
                        self.fail((near, error))
                    except RepairError:
                        pass
        self.assertGreater(min(seen.values()), 200)

    def test_named_lines(self):
        desk = desk_of()
        for line, word in (
                ("", 0), (" ", 0), ("plans", 0), ("Plan a 0", 0), ("plan", 1), ("plan a", 2), ("plan A 0", 1), ("plan a ", 2),
                ("plan a 0 , 9", 4), ("plan a 0 , 0", 4), ("plan a 0 / mute 0", 5), ("plan abcdefghi 0", 1), ("rule r", 2),
                ("rule r total", 3), ("rule r total 13", 3), ("rule r total 1 1", 4), ("rule r ( total 1", 5),
                ("rule r machine 0 1 / 40 -", 6), ("join a b", 3), ("join a b c d", 4), ("turn a 100", 2), ("turn a -1", 2),
                ("turn a", 2), ("put a 6 1", 2), ("put a 0", 3), ("put a 0 1 1", 4), ("put a 0 2 1", 4), ("put a 0 9", 3),
                ("put a 0 1 , 2", 4), ("undo undo", 1), ("names a", 1), ("show", 1), ("show a b", 2), ("judge a one 9", 3),
                ("judge a one", 3), ("judge a one 1 1", 4), ("fewest a one", 2), ("fewest a 1 1", 3), ("fewest a 1 one one", 4),
                ("lets one", 2), ("lets one X", 2), ("lets one " + "." * 401, 2), ("lets one ", 2), ("play a x", 3),
                ("play a x 1 1", 4), ("known a 1 x", 2), ("undo ", 1), (" undo", 0), ("judge  a one 1", 1), ("judge a\none 1", 1)):
            self.assert_raised(BadCommand(word), desk.say, line)
            self.assert_raised(BadCommand(word), desk, line)

    def test_what_is_no_string(self):
        desk = desk_of()
        for value in [*NO_STRINGS, b"names", ["names"]]:
            for tell in (desk.say, desk, desk.run):
                self.assert_raised(BadCommand(0), tell, value)
            self.assert_raised(BadCommand(0), desk.say, line=value)
            self.assert_raised(BadCommand(0), desk.run, "undo", value)
        self.assertEqual(len(desk), len(PLANS) + len(RULES))
        for value in ANY:
            if isinstance(value, str):
                self.assert_raised(BadCommand(0), desk.say, value)

    def test_names_that_stand_for_nothing(self):
        desk = desk_of()
        before = state(desk)
        for line, name in (
                ("join x y b", "y"), ("join x y z", "y"), ("join x b z", "z"), ("join x two b", "two"), ("both x a y", "y"),
                ("both x b y", "b"), ("either x y z", "y"), ("turn x 1", "x"), ("trim two", "two"), ("put x 0 1", "x"),
                ("put two 5 1", "two"), ("show two", "two"), ("tell b", "b"), ("judge x y 1", "x"), ("judge a y 1", "y"),
                ("judge a b 1", "b"), ("worst x y", "x"), ("worst a e", "e"), ("fewest x 1", "x"), ("fewest x 1 y", "x"),
                ("fewest a 1 y", "y"), ("order x y z 1", "x"), ("order a y z 1", "y"), ("order a b z 1", "z"),
                ("order a c z 1", "z"), ("spare x y 1", "x"), ("spare a y 1", "y"), ("inside x y", "x"), ("inside one y", "y"),
                ("lets b xx", "b"), ("play r - 1", "r"), ("known two xx 8", "two")):
            for tell in (desk.say, desk, desk.run):
                self.assert_raised(NoName(name), tell, line)
        self.assertEqual(state(desk), before)
        self.assert_raised(BadCommand(3), desk.say, "judge x y 9")
        self.assert_raised(NoName("a"), Desk().say, "show a")

    def test_what_is_called_raises(self):
        desk = desk_of()
        desk("plan q 0 / 0 / 0 / 0")
        desk("plan s 0 / 0 / 0 / 0 / 0")
        desk("plan g 0 , 6 , 7")
        desk("plan m 1 / mute 2 / mute 3")
        before = state(desk)
        for line, error in (
                ("rule r machine 1 -", BadRule(0)), ("rule r machine 0 - / 0 2", BadRule(1)),
                ("rule new " + "machine " + " / ".join(["0 0"] * 41), TooMany("pairs", 40)),
                ("rule r ( burst 8 12 & ( total 12 & window 2 6 ) )", TooMany("places", 40)),
                ("join x a c", BadPlan("mute")), ("join x q s", TooMany("phases", 6)), ("join x full g", TooMany("sums", 6)),
                ("put a 1 1", NoPhase(1)), ("put a 5 1", NoPhase(5)), ("put a 0 1", BadTick(2)), ("put full 0 6", TooMany("sums", 6)),
                ("put full 0 5", BadTick(6)), ("put c 1 0 1", BadTick("mute")), ("order a mute one 1", BadPlan("mute"))):
            for tell in (desk.say, desk, desk.run):
                self.assert_raised(error, tell, line)
            self.assertEqual(state(desk), before)

    def test_limits_of_the_functions(self):
        desk = Desk()
        desk.run("plan a 3 4 5 , 0 5 8", "plan b 3 4 5", "rule free machine 0 0")
        self.assert_raised(TooMany("pairs", 2000), desk.say, "order a b free 8")
        desk.run("rule r burst 8 12", "both r r r")
        for line, call in (("worst a r", lambda: worst_delays(desk.plans["a"], desk.rules["r"])),
                           ("judge a r 8", lambda: judge(desk.plans["a"], desk.rules["r"], 8))):
            try:
                call()
            except TooMany as error:
                self.assert_raised(error, desk.say, line)
            else:
                self.assertIs(type(desk.say(line)), str)


class TestBack(Errors, unittest.TestCase):

    def test_undo_line_by_line(self):
        desk = Desk()
        states = []
        lines = ["plan a 0 , 1", "plan b 0 , 1 2", "rule one burst 1 1", "plan a 0 , 1", "join c a b", "trim c", "turn a 0",
                 "put b 0 8", "both one one one", "rule two total 2", "either two one two", "plan a 0", "join a b c"]
        for line in lines:
            states.append(state(desk))
            self.assertEqual(desk(line), "ok")
            self.assertEqual(len(desk), len(states))
            self.assertIs(bool(desk), True)
            for asked in ("names", "show a", "tell one" if "one" in desk.rules else "names", "judge a one 1"
                          if "one" in desk.rules else "names"):
                desk(asked)
            self.assertEqual(len(desk), len(states))
        while states:
            self.assertEqual(desk("undo"), "ok")
            self.assertEqual(state(desk), states.pop())
        for tell in (desk.say, desk, lambda line: desk.run(line)[0]):
            self.assertEqual(tell("undo"), "nothing")
        self.assertEqual((state(desk), bool(desk)), (({}, {}, 0), False))

    def test_undo_in_any_order(self):
        chooser = chosen(42)
        for turn in range(60):
            desk, past = desk_of(), []
            many = len(desk)
            for step in range(40):
                line = chooser.choice([*LINES, "undo", "undo", "undo"])
                before = state(desk)
                try:
                    told = desk(line)
                except RepairError:
                    self.assertEqual(state(desk), before)
                    continue
                if line == "undo":
                    self.assertEqual(told, "ok")
                    if past:
                        self.assertEqual(state(desk), past.pop())
                    else:
                        many -= 1
                elif told == "ok":
                    past.append(before)
                self.assertEqual(len(desk), many + len(past))

    def test_run(self):
        desk = desk_of()
        self.assertEqual(desk.run(), [])
        self.assertEqual(desk.run("plan z 0", "show z", "undo", "undo", "names"),
                         ["ok", "0", "ok", "ok", "a b c d e full late mute one / a free none one r two"])
        before = state(desk)
        for last, error in (("show z", NoName("z")), ("shows", BadCommand(0)), (None, BadCommand(0)), ("put a 4 1", NoPhase(4)),
                            ("rule r machine 1 -", BadRule(0))):
            self.assert_raised(error, desk.run, "plan y 0", "undo", "undo", "undo", "trim d", "show d", "both q one two", last)
            self.assert_raised(error, desk.run, last, "plan y 0")
            self.assertEqual(state(desk), before)
        self.assertEqual(desk("undo"), "ok")
        self.assertEqual(len(desk), before[2] - 1)

    def test_lines_of_a_run_see_each_other(self):
        desk = Desk()
        told = desk.run("rule a total 1", "plan a 0 , 1", "judge a a 1", "plan a 0", "judge a a 1", "undo", "judge a a 1")
        self.assertEqual(told, ["ok", "ok", "in time 2", "ok", "late 2", "ok", "in time 2"])
        self.assertIs(type(told), list)
        self.assertEqual(len(desk), 2)

    def test_dicts_belong_to_the_caller(self):
        desk = desk_of()
        before = state(desk)
        plans, rules = desk.plans, desk.rules
        plans["x"] = plans.pop("a")
        rules.clear()
        self.assertEqual(state(desk), before)
        self.assertTrue(all(isinstance(plan, Plan) for plan in desk.plans.values()))
        self.assertTrue(all(isinstance(rule, Rule) for rule in desk.rules.values()))
        kept = desk.plans
        desk("plan a 0 1")
        self.assertEqual(str(kept["a"]), PLANS["a"])

    def test_trials(self):
        desk = desk_of()
        before = state(desk)
        with desk.trial() as same_one:
            self.assertIs(same_one, desk)
            desk.run("plan z 0", "undo", "undo", "undo")
            inner = state(desk)
            with desk.trial():
                desk("undo")
                desk("trim d")
            self.assertEqual(state(desk), inner)
        self.assertEqual(state(desk), before)
        with self.assertRaises(NoName):
            with desk.trial():
                desk("undo")
                desk("show zz")
        self.assertEqual(state(desk), before)
        self.assert_raised(NoName("zz"), desk.tried, lambda one: (one("undo"), one("show zz")))
        self.assertEqual(state(desk), before)
        empty = Desk()
        with empty.trial() as same_one:
            self.assertIs(same_one, empty)
            empty("plan a 0")
        self.assertEqual(state(empty), ({}, {}, 0))
        self.assertEqual(empty("undo"), "nothing")

    def test_tried(self):
        desk = desk_of()
        before = state(desk)
        for value in ANY:
            self.assertIs(desk.tried(lambda one: value), value)
        told = desk.tried(work=lambda one: (one is desk, one("plan q 0"), one.tried(lambda two: two("undo")), one("show q")))
        self.assertEqual(told, (True, "ok", "ok", "0"))
        self.assertEqual(state(desk), before)

    def test_desks_go_their_own_ways(self):
        one, other = Desk(), Desk()
        one("plan a 0")
        self.assertEqual((len(other), other.plans), (0, {}))
        self.assertTrue(one == one and one != other and Desk() != Desk())


if __name__ == "__main__":
    unittest.main()
