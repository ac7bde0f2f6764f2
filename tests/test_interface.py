"""Each name of the interface stands in its file, with its arguments; each method stands in its own class."""

import importlib
import inspect
import unittest

FUNCTIONS = {
    "checks": ["is_integer(value)", "is_within(value, least, most)", "is_age(value)", "is_delay(value)", "is_losses(value)",
               "is_name(value)"],
    "plans": ["copies(*ages)", "parity(size)"],
    "inside": ["inside(one, other)", "shows_inside(one, other, value)"],
    "seen": ["tight_burst(*losses)", "tight_window(width, *losses)", "tight_total(*losses)", "tight_machine(*losses)"],
    "standings": ["start(plan, rule, delay)", "step(plan, rule, delay, standing, is_lost)", "ordered(standings)",
                  "standing_behind(plan, rule, delay, losses)", "reached(plan, rule, delay, limit=2000)",
                  "least(plan, rule, delay, limit=2000)"],
    "judged": ["judge(plan, rule, delay, limit=2000)"],
    "look_judged": ["shows_judged(plan, rule, delay, value)"],
    "delays": ["worst_delay(plan, rule, phase, most=8, limit=2000)", "worst_delays(plan, rule, most=8, limit=2000)",
               "fewest_losses(plan, delay, rule=None, limit=2000)"],
    "look_delays": ["shows_delay(plan, rule, phase, most, value)", "shows_fewest(plan, delay, rule, value)"],
    "compared": ["compare(one, other, rule, delay, limit=2000)", "order(one, other, rule, delay, limit=2000)"],
    "look_compared": ["shows_compared(one, other, rule, delay, value)"],
    "better": ["needless(plan)", "trimmed(plan)", "spare(plan, rule, delay, limit=2000)",
               "slim(plan, rule, delay, limit=2000)", "first_plan(age, extra, rule, delay, limit=2000)"],
    "look_better": ["shows_first(age, extra, rule, delay, value)"],
    "streams": ["play(plan, rows, losses, delay)"],
    "texts": ["setting_text(plan, rule, delay)", "packets_text(packets)", "verdict_text(verdict)"],
    "reader": ["read_setting(text)", "read_packets(text)", "read_verdict(text)"],
}
# For each class its arguments, its methods, its properties, and the names of its operators.
CLASSES = {
    "spaces": {"Space(*rows)": (
        ["within(other)", "older()", "below(many)", "tells(age)", "rest(bits)", "missed(age)", "whole(many)", "read(text)"],
        ["told"], "len iter contains add and eq str")},
    "plans": {"Tick(*sums, mute=False)": (
        ["packed(rows)", "read(text)"], ["masks", "ages"], "len iter contains add sub eq str"),
        "Plan(*ticks)": (
        ["tick_at(number)", "with_phase(phase, tick)", "shortest()", "same_for_ever(other)", "read(text)"], ["ages", "rate"],
        "len iter getitem rshift or eq str")},
    "rules": {"Rule": (
        ["behind(place, is_lost)", "first_refused(losses)", "all_losses(ticks)", "many(ticks)", "read(text)"],
        ["places", "ways"], "call contains and or eq str"),
        "Burst(most, gap)": ([], [], ""), "Window(most, width)": ([], [], ""), "Total(most)": ([], [], ""),
        "Machine(*pairs)": ([], [], ""), "Both(one, other)": ([], [], ""), "Either(one, other)": ([], [], "")},
    "verdicts": {"Verdict": ([], [], "")},
    "inside": {"Inside(pairs)": ([], [], "bool eq"), "Outside(losses)": ([], [], "bool eq")},
    "standings": {"Standing(phase, place, space)": ([], [], "eq")},
    "judged": {"InTime(table)": ([], [], "bool eq"), "Late(losses, other)": ([], [], "bool eq")},
    "delays": {"Delay(number, table, losses)": ([], [], "eq"), "Fewest(number, losses, table)": ([], [], "eq")},
    "compared": {"AtLeast(table)": ([], [], "bool eq"), "Parted(losses)": ([], [], "bool eq"),
                 "Pair(phase, place, first, second)": ([], [], "eq")},
    "better": {"Found(plan, table, losers)": ([], [], "bool eq"), "Barred(losers)": ([], [], "bool eq")},
    "streams": {"Packet(tick, parts)": (["read(text)"], [], "eq str"),
                "Sender(plan)": (["send(row=None)", "undo()"], ["ticks"], ""),
                "Receiver(plan, delay)": (
                    ["hear(packet)", "wait(ticks=1)", "known(most)", "worth(bits)", "undo()", "trial()", "tried(work)",
                     "twin()"], ["now", "told", "late"], "iadd")},
    "bench": {"Bench(plan)": (
        ["add(tick)", "drop(phase)", "put(phase, ages)", "take(phase, ages)", "turn(n)", "replace(plan)", "undo()", "trial()",
         "tried(work)", "twin()"], ["now"], "getitem setitem len eq")},
    "desk": {"Desk()": (["say(line)", "run(*lines)", "trial()", "tried(work)"], ["plans", "rules"], "call len")},
}
STATIC = {("Space", "whole"), ("Rule", "read")}
OF_CLASS = {("Space", "read"), ("Tick", "read"), ("Plan", "read"), ("Packet", "read")}


def module(name):
    return importlib.import_module(f"laterepair.{name}")


def told(function, skipped=0):
    """The arguments of a function as they are written, without the first ones."""
    parameters = list(inspect.signature(function).parameters.values())[skipped:]
    return f"({', '.join(str(parameter) for parameter in parameters)})".replace("*, ", "")


class TestInterface(unittest.TestCase):

    def test_functions(self):
        for name, functions in FUNCTIONS.items():
            for text in functions:
                function = getattr(module(name), text.partition("(")[0])
                self.assertEqual(function.__module__, f"laterepair.{name}")
                self.assertEqual(f"{function.__name__}{told(function)}", text)

    def test_classes(self):
        for name, classes in CLASSES.items():
            for text, (methods, properties, signs) in classes.items():
                made = getattr(module(name), text.partition("(")[0])
                self.assertEqual(made.__module__, f"laterepair.{name}")
                if "(" in text and text != "Desk()":
                    self.assertEqual(f"{made.__name__}{told(made.__init__, 1)}", text)
                for method in methods:
                    self.check_method(made, method)
                for attribute in properties:
                    self.assertIsInstance(vars(made)[attribute], property)
                for sign in signs.split():
                    self.assertIn(f"__{sign}__", vars(made), made)

    def check_method(self, made, text):
        name = text.partition("(")[0]
        found = vars(made)[name]
        key = (made.__name__, name)
        self.assertIs(isinstance(found, staticmethod), key in STATIC)
        self.assertIs(isinstance(found, classmethod), key in OF_CLASS)
        function = found.__func__ if key in STATIC | OF_CLASS else found
        self.assertEqual(f"{name}{told(function, 0 if key in STATIC else 1)}", text)

    def test_what_cannot_be_set(self):
        for name, classes in CLASSES.items():
            for text, (_, properties, _) in classes.items():
                for attribute in properties:
                    found = vars(getattr(module(name), text.partition("(")[0]))[attribute]
                    self.assertIs(found.fset is not None, (name, attribute) == ("bench", "now"))

    def test_the_package_itself(self):
        self.assertEqual([name for name in vars(importlib.import_module("laterepair")) if name.startswith("is_")], [])


if __name__ == "__main__":
    unittest.main()
