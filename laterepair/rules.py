"""Rules: machines that tell which losses are let."""

from laterepair.bounds import MOST_PAIRS, RULE_BOUNDS
from laterepair.checks import is_losses, is_within
from laterepair.errors import BadCount, BadLosses, BadRule, TooMany
from laterepair.machines import burst_table, count_losses, fewest_ways, joined_table, next_losses
from laterepair.machines import total_table, walked, window_table
from laterepair.words import rule_steps, words_of

MOST_TICKS = 4000


class Rule:
    """The base class of all rules; each class below it sets _ways, and tells its words by pieces()."""

    @property
    def places(self):
        """How many places the rule has."""
        return len(self._ways)

    @property
    def ways(self):
        """The tuple of the pairs (place behind a kept packet, place behind a lost one or None)."""
        return self._ways

    def behind(self, place, is_lost):
        """The place behind a kept or a lost packet at this place, None if none may be lost there."""
        if not is_within(place, 0, len(self._ways) - 1):
            raise BadRule("place")
        if not isinstance(is_lost, bool):
            raise BadRule("is_lost")
        kept, lost = self._ways[place]
        return lost if is_lost else kept

    def __call__(self, losses):
        if not is_losses(losses):
            raise BadLosses(losses)
        return walked(self._ways, losses)[0]

    def __contains__(self, x):
        return is_losses(x) and walked(self._ways, x)[1] is None

    def first_refused(self, losses):
        """The index of the first packet that may not be lost, None if the rule lets the losses."""
        if not is_losses(losses):
            raise BadLosses(losses)
        return walked(self._ways, losses)[1]

    def all_losses(self, ticks):
        """All losses of so many ticks that the rule lets, ascending."""
        if not is_within(ticks, 0, MOST_TICKS):
            raise BadCount(ticks)
        losses = "." * ticks
        while losses is not None:
            yield losses
            losses = next_losses(self._ways, losses)

    def many(self, ticks):
        """How many losses of so many ticks the rule lets."""
        if not is_within(ticks, 0, MOST_TICKS):
            raise BadCount(ticks)
        return count_losses(self._ways, ticks)

    def __and__(self, other):
        return Both(self, other)

    def __or__(self, other):
        return Either(self, other)

    def __eq__(self, other):
        return isinstance(other, Rule) and self._ways == other._ways

    def __str__(self):
        return " ".join(written(self))

    @staticmethod
    def read(text):
        """The rule whose `str` is this text."""
        return made_by(rule_steps(words_of(text), 0))


def written(rule):
    """The words of a rule, by what it was made of."""
    words = []
    # No recursion: rules can be put together deeper than calls can be nested.
    waiting = [rule]
    while waiting:
        part = waiting.pop()
        if isinstance(part, str):
            words.append(part)
        else:
            waiting.extend(part.pieces()[::-1])
    return words


def check_numbers(word, numbers):
    """Raises BadRule with the name of the first number that is not within its bounds."""
    for (name, least, most), number in zip(RULE_BOUNDS[word], numbers):
        if not is_within(number, least, most):
            raise BadRule(name)


class Burst(Rule):
    """At most `most` packets are lost in a row, and between two such rows at least `gap` are kept."""

    def __init__(self, most, gap):
        check_numbers("burst", (most, gap))
        self.most = most
        self.gap = gap
        self._ways = fewest_ways(burst_table(most, gap))

    def pieces(self):
        """The words of the rule."""
        return ["burst", str(self.most), str(self.gap)]


class Window(Rule):
    """Among any `width` packets one after another at most `most` are lost."""

    def __init__(self, most, width):
        check_numbers("window", (most, width))
        self.most = most
        self.width = width
        self._ways = fewest_ways(window_table(most, width))

    def pieces(self):
        """The words of the rule."""
        return ["window", str(self.most), str(self.width)]


class Total(Rule):
    """At most `most` packets are lost."""

    def __init__(self, most):
        check_numbers("total", (most,))
        self.most = most
        self._ways = fewest_ways(total_table(most))

    def pieces(self):
        """The words of the rule."""
        return ["total", str(self.most)]


def is_pair(value, many):
    """Whether this is a tuple of two indexes below many, of which the second one may be None."""
    if not isinstance(value, tuple) or len(value) != 2:
        return False
    kept, lost = value
    return is_within(kept, 0, many - 1) and (lost is None or is_within(lost, 0, many - 1))


class Machine(Rule):
    """A rule by pairs of the index of the pair behind a kept packet, and of that behind a lost one or None."""

    def __init__(self, *pairs):
        if len(pairs) == 0:
            raise BadRule("pairs")
        if len(pairs) > MOST_PAIRS:
            raise TooMany("pairs", MOST_PAIRS)
        for at, pair in enumerate(pairs):
            if not is_pair(pair, len(pairs)):
                raise BadRule(at)
        self.pairs = pairs
        self._ways = fewest_ways(pairs)

    def pieces(self):
        """The words of the rule."""
        words = ["machine"]
        for kept, lost in self.pairs:
            words.extend([str(kept), "-" if lost is None else str(lost), "/"])
        return words[:-1]


def check_rules(one, other):
    """Raises BadRule with the name of the first one that is no Rule."""
    if not isinstance(one, Rule):
        raise BadRule("one")
    if not isinstance(other, Rule):
        raise BadRule("other")


class Both(Rule):
    """What both rules let."""

    def __init__(self, one, other):
        check_rules(one, other)
        self.one = one
        self.other = other
        self._ways = fewest_ways(joined_table(one.ways, other.ways, True))

    def pieces(self):
        """The words and the rules that the rule was made of."""
        return ["(", self.one, "&", self.other, ")"]


class Either(Rule):
    """What one of two rules lets."""

    def __init__(self, one, other):
        check_rules(one, other)
        self.one = one
        self.other = other
        self._ways = fewest_ways(joined_table(one.ways, other.ways, False))

    def pieces(self):
        """The words and the rules that the rule was made of."""
        return ["(", self.one, "|", self.other, ")"]


def made_by(steps):
    """The rule that these steps make, each of them behind those that make its parts."""
    made = []
    for word, numbers in steps:
        if word == "&" or word == "|":
            other = made.pop()
            one = made.pop()
            made.append(Both(one, other) if word == "&" else Either(one, other))
        else:
            made.append(simple_rule(word, numbers))
    return made[0]


def simple_rule(word, numbers):
    """The rule without brackets with this first word and these arguments."""
    if word == "burst":
        return Burst(*numbers)
    if word == "window":
        return Window(*numbers)
    if word == "total":
        return Total(*numbers)
    return Machine(*numbers)
