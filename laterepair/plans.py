"""Plans: which sums of rows the packet of each tick carries."""

from math import lcm

from laterepair.bounds import MOST_PHASES, MOST_SUMS
from laterepair.checks import MOST_AGE, is_age, is_ascending, is_integer, is_within
from laterepair.errors import BadCount, BadPlan, BadTick, NoPhase, TooMany
from laterepair.words import ended, plan_parts, tick_parts, words_of


def is_sum(value):
    """Whether this is an ascending tuple of ages, at least one."""
    if not isinstance(value, tuple) or len(value) == 0:
        return False
    return all([is_age(age) for age in value]) and is_ascending(value)


class Tick:
    """A phase of a plan: its sums, and whether its ticks are mute."""

    def __init__(self, *sums, mute=False):
        for at, ages in enumerate(sums):
            if not is_sum(ages) or ages in sums[:at]:
                raise BadTick(at)
        if len(sums) > MOST_SUMS:
            raise TooMany("sums", MOST_SUMS)
        if not isinstance(mute, bool):
            raise BadTick("mute")
        if mute and any([ages[0] == 0 for ages in sums]):
            raise BadTick("mute")
        self.sums = sums
        self.mute = mute

    @property
    def masks(self):
        """The tuple of the sums as integers whose bits are the ages."""
        return tuple([sum([1 << age for age in ages]) for ages in self.sums])

    @property
    def ages(self):
        """The greatest age of a sum, 0 without sums."""
        return max([ages[-1] for ages in self.sums], default=0)

    def __len__(self):
        return len(self.sums)

    def __iter__(self):
        return iter(self.sums)

    def __contains__(self, x):
        return is_sum(x) and x in self.sums

    def __add__(self, other):
        return Tick(*self.sums, other, mute=self.mute)

    def __sub__(self, other):
        if other not in self:
            raise BadTick("sum")
        sums = [ages for ages in self.sums if ages != other]
        return Tick(*sums, mute=self.mute)

    def packed(self, rows):
        """The tuple of the values of the sums, by a dict from ages to rows; ages that it lacks count as 0."""
        return tuple([packed_sum(ages, rows) for ages in self.sums])

    def __eq__(self, other):
        return isinstance(other, Tick) and self.sums == other.sums and self.mute == other.mute

    def __str__(self):
        texts = [" ".join([str(age) for age in ages]) for ages in self.sums]
        first = "mute " if self.mute else ""
        words = " , ".join(texts) if texts else "-"
        return f"{first}{words}"

    @classmethod
    def read(cls, text):
        """The tick whose `str` is this text."""
        words = words_of(text)
        sums, mute, at = tick_parts(words, 0)
        ended(words, at)
        return cls(*sums, mute=mute)


def packed_sum(ages, rows):
    """The exclusive or of the rows of these ages."""
    value = 0
    for age in ages:
        value = value ^ rows.get(age, 0)
    return value


class Plan:
    """One to six ticks, which come round."""

    def __init__(self, *ticks):
        for at, tick in enumerate(ticks):
            if not isinstance(tick, Tick):
                raise BadPlan(at)
        if len(ticks) == 0:
            raise BadPlan("ticks")
        if len(ticks) > MOST_PHASES:
            raise TooMany("phases", MOST_PHASES)
        self._ticks = ticks

    def __len__(self):
        return len(self._ticks)

    def __iter__(self):
        return iter(self._ticks)

    def __getitem__(self, at):
        if not is_within(at, 0, len(self._ticks) - 1):
            raise NoPhase(at)
        return self._ticks[at]

    def tick_at(self, number):
        """The Tick of the tick with this number."""
        if not is_integer(number) or number < 0:
            raise BadCount(number)
        return self._ticks[number % len(self._ticks)]

    @property
    def ages(self):
        """The greatest age of all sums, 0 without sums."""
        return max([tick.ages for tick in self._ticks])

    @property
    def rate(self):
        """A pair: how many sums the phases have in all, and how many phases are not mute."""
        many = sum([len(tick.sums) for tick in self._ticks])
        speaking = [tick for tick in self._ticks if not tick.mute]
        return (many, len(speaking))

    def __rshift__(self, other):
        if not is_integer(other) or other < 0:
            raise BadCount(other)
        turn = other % len(self._ticks)
        ticks = self._ticks[turn:] + self._ticks[:turn]
        return Plan(*ticks)

    def __or__(self, other):
        if not isinstance(other, Plan):
            raise BadPlan("other")
        many = lcm(len(self._ticks), len(other))
        pairs = [(self.tick_at(number), other.tick_at(number)) for number in range(many)]
        if any([one.mute != two.mute for one, two in pairs]):
            raise BadPlan("mute")
        if many > MOST_PHASES:
            raise TooMany("phases", MOST_PHASES)
        ticks = [joined_tick(one, two) for one, two in pairs]
        return Plan(*ticks)

    def with_phase(self, phase, tick):
        """The plan with another Tick for this phase."""
        if not is_within(phase, 0, len(self._ticks) - 1):
            raise NoPhase(phase)
        if not isinstance(tick, Tick):
            raise BadPlan("tick")
        ticks = [tick if at == phase else old for at, old in enumerate(self._ticks)]
        return Plan(*ticks)

    def shortest(self):
        """The plan with the fewest phases that has the same Tick at each tick."""
        many = len(self._ticks)
        # The ticks come round from tick 0 on, so the fewest phases divide the number of phases.
        rounds = [size for size in range(1, many + 1) if many % size == 0]
        fewest = min([size for size in rounds if self._ticks[size:] == self._ticks[:many - size]])
        ticks = self._ticks[:fewest]
        return Plan(*ticks)

    def same_for_ever(self, other):
        """Whether both plans have equal Ticks at each tick."""
        if not isinstance(other, Plan):
            raise BadPlan("other")
        return self.shortest() == other.shortest()

    def __eq__(self, other):
        return isinstance(other, Plan) and self._ticks == other._ticks

    def __str__(self):
        return " / ".join([str(tick) for tick in self._ticks])

    @classmethod
    def read(cls, text):
        """The plan whose `str` is this text."""
        ticks = ticks_of(plan_parts(words_of(text), 0))
        return cls(*ticks)


def ticks_of(parts):
    """The Ticks of the sums of each, and whether each is mute."""
    return [Tick(*sums, mute=mute) for sums, mute in parts]


def joined_tick(one, other):
    """The Tick with the sums of both, those of one first, each once."""
    sums = [*one.sums, *[ages for ages in other.sums if ages not in one.sums]]
    return Tick(*sums, mute=one.mute)


def copies(*ages):
    """The Plan of one Tick with each row by itself, and again at each of these ages."""
    for at, age in enumerate(ages):
        if not is_within(age, 1, MOST_AGE) or age in ages[:at]:
            raise BadTick(at)
    sums = [(age,) for age in ages]
    return Plan(Tick((0,), *sums))


def parity(size):
    """The Plan of so many Ticks with a row each, and then a mute Tick with the sum of these rows."""
    if not is_within(size, 1, MOST_PHASES - 1):
        raise BadCount(size)
    single = [Tick((0,)) for _ in range(size)]
    closing = Tick(tuple(range(1, size + 1)), mute=True)
    return Plan(*single, closing)
