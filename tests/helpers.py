"""What several test files share: any values, errors with their attributes, all sums, all losses."""

from itertools import product

from laterepair.bench import Bench
from laterepair.better import Barred, Found
from laterepair.compared import AtLeast, Pair, Parted
from laterepair.delays import Delay, Fewest
from laterepair.desk import Desk
from laterepair.errors import BadText, RepairError
from laterepair.inside import Inside, Outside
from laterepair.judged import InTime, Late
from laterepair.plans import Plan, Tick
from laterepair.rules import Burst, Rule, Total
from laterepair.spaces import Space
from laterepair.standings import Standing
from laterepair.streams import Packet, Receiver, Sender

# One value of each kind, and some of the same kind that are often mistaken for each other.
ANY = [
    None, True, False, -1, -(10 ** 39), 10 ** 39, "", "0", "1", "a", "x", ".x", "-", "rows", "burst 1 1",
    "0 , 1", " ", "\n", (), (0,), (True,), (0, 1), [], [0], [1, 2], {}, {0: 1}, ((0,),), [[0]],
    Space(), Space(3), Tick(), Tick((0,)), Plan(Tick((0,))), Burst(1, 1), Total(0), Inside(()), Outside("x"),
    BadText(0, 0), Standing(0, 0, Space(1)), Standing(None, True, ()), InTime(()), InTime((Standing(0, 0, Space(1)),)),
    Late("x", (1,)), Late("", ()), Delay(0, (), None), Delay(None, (), "x"), Fewest(0, "", None), Fewest(1, "x", ()),
    Pair(0, 0, Space(1), Space(1)), AtLeast(()), Parted("x"), Found(Plan(Tick((0,))), InTime(()), ()), Barred(()),
    Packet(0, (1,)), Packet(None, []), Sender(Plan(Tick((0,)))), Receiver(Plan(Tick((0,))), 1),
    Bench(Plan(Tick((0,)))), Desk(),
]
NO_INTEGERS = [value for value in ANY if type(value) is not int]
NO_STRINGS = [value for value in ANY if type(value) is not str]
NO_PLANS = [value for value in ANY if not isinstance(value, Plan)]
NO_RULES = [value for value in ANY if not isinstance(value, Rule)]
NO_DELAYS = [-1, 9, 10 ** 39, *NO_INTEGERS]
NO_LIMITS = [0, -1, 5001, 10 ** 39, *NO_INTEGERS]
NO_ROWS = [-1, 10 ** 30 + 1, 10 ** 39, *NO_INTEGERS]
NO_BOOLS = [0, 1, *[value for value in ANY if type(value) is not bool]]


class Errors:
    """Beside unittest.TestCase: whether a call raises just this error, with just these attributes."""

    def assert_raised(self, wanted, call, *args, **named):
        try:
            result = call(*args, **named)
        except type(wanted) as error:
            self.assertIs(type(error), type(wanted))
            self.assertTrue(same(list(vars(error).items()), list(vars(wanted).items())), (vars(error), vars(wanted)))
        else:
            self.fail(f"{wanted!r} was not raised, but {result!r} returned")

    def assert_refused(self, call, right, wrongs):
        """Each wrong value raises its error, by name and by position, also ahead of each later wrong argument.

        right are the arguments by name, in the order of the parameters; wrongs are triples of a name, the wrong
        values, and a function that tells the error of a value, in the order in which they are looked at.
        """
        for at, (name, values, told) in enumerate(wrongs):
            for value in values:
                named = {**right, name: value}
                self.assert_raised(told(value), call, **named)
                self.assert_raised(told(value), call, *named.values())
                for later, others, _ in wrongs[at + 1:]:
                    for other in (others[0], others[-1]):
                        self.assert_raised(told(value), call, **{**named, later: other})


def same(one, other):
    """Whether two values are equal and of equal kinds throughout."""
    if type(one) is not type(other):
        return False
    if isinstance(one, (list, tuple)):
        return len(one) == len(other) and all(same(*pair) for pair in zip(one, other))
    if isinstance(one, dict):
        return same(list(one.items()), list(other.items()))
    return one == other


def all_sums(rows):
    """The set of all exclusive ors of some of these integers."""
    sums = {0}
    for row in rows:
        sums |= {old ^ row for old in sums}
    return sums


def all_texts(ticks):
    """All losses of so many ticks, ascending."""
    return ["".join(letters) for letters in product(".x", repeat=ticks)]


def texts_up_to(ticks):
    """All losses of at most so many ticks, shorter ones first, equally long ones ascending."""
    return [text for many in range(ticks + 1) for text in all_texts(many)]


def changed_words(words, others):
    """All rows of words with one word left out, doubled, put in, or replaced, or with two neighbours exchanged."""
    rows = []
    for at in range(len(words) + 1):
        for other in others:
            rows.append(words[:at] + [other] + words[at:])
    for at in range(len(words)):
        rows.append(words[:at] + words[at + 1:])
        rows.append(words[:at] + [words[at]] + words[at:])
        rows.append(words[:at])
        for other in others:
            rows.append(words[:at] + [other] + words[at + 1:])
    for at in range(len(words) - 1):
        rows.append(words[:at] + [words[at + 1], words[at]] + words[at + 2:])
    return rows


def wrong_word(words, is_whole, endings):
    """The index of the first word that cannot stand, None if the words are whole.

    A word can stand if, with those ahead of it, it begins some row of words that is whole.
    """
    for many in range(1, len(words) + 1):
        if not any(is_whole(words[:many] + ending) for ending in endings):
            return many - 1
    return None if is_whole(words) else len(words)


def wrong_in(words, at, read):
    """The index of the word that a reader of all words from at on refuses, None if all can stand."""
    if len(words) == at:
        return at
    try:
        read(" ".join(words[at:]))
    except BadText as error:
        return error.word + at
    except RepairError:
        return None
    return None
