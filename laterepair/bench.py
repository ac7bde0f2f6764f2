"""Plans under change, with deeds that can be taken back."""

from laterepair.checks import is_within
from laterepair.errors import BadBench, NoPhase
from laterepair.pasts import Past, Trial, taken_back
from laterepair.plans import Plan, Tick


class Bench:
    """A plan under change."""

    def __init__(self, plan):
        if not isinstance(plan, Plan):
            raise BadBench("plan")
        self._past = Past(plan)

    @property
    def now(self):
        """The Plan as it is."""
        return self._past.held

    @now.setter
    def now(self, value):
        """Makes this the plan."""
        self.replace(value)

    def _become(self, plan, word):
        """Makes this the plan, by a deed of this word."""
        self._past = Past(plan, word, self._past)

    def add(self, tick):
        """Puts a tick behind the others; its phase."""
        if not isinstance(tick, Tick):
            raise BadBench("tick")
        plan = self.now
        ticks = [*plan, tick]
        self._become(Plan(*ticks), "add")
        return len(plan)

    def drop(self, phase):
        """Takes the tick of this phase out, and returns it."""
        plan = self.now
        tick = plan[phase]
        ticks = [other for at, other in enumerate(plan) if at != phase]
        self._become(Plan(*ticks), "drop")
        return tick

    def __getitem__(self, at):
        return self.now[at]

    def __setitem__(self, at, worth):
        plan = self.now
        if not is_within(at, 0, len(plan) - 1):
            raise NoPhase(at)
        if not isinstance(worth, Tick):
            raise BadBench("tick")
        self._become(plan.with_phase(at, worth), "set")

    def put(self, phase, ages):
        """Puts a sum behind the others of this phase."""
        plan = self.now
        self._become(plan.with_phase(phase, plan[phase] + ages), "put")

    def take(self, phase, ages):
        """Takes a sum of this phase out."""
        plan = self.now
        self._become(plan.with_phase(phase, plan[phase] - ages), "take")

    def turn(self, n):
        """Makes the plan begin so many ticks later."""
        self._become(self.now >> n, "turn")

    def replace(self, plan):
        """Makes this the plan, as setting `now` does."""
        if not isinstance(plan, Plan):
            raise BadBench("plan")
        self._become(plan, "replace")

    def undo(self):
        """Takes back the last deed, and returns its word."""
        word = self._past.word
        self._past = taken_back(self._past)
        return word

    def __len__(self):
        return len(range(self._past.depth))

    def __eq__(self, other):
        return isinstance(other, Bench) and self._past.held == other._past.held

    def __iter__(self):
        raise TypeError("a bench is not iterated over")

    def trial(self):
        """A block behind which the plan and what can be taken back are as when it began."""
        return Trial(self)

    def tried(self, work):
        """What this work on the bench returns, in a trial."""
        with self.trial() as same:
            return work(same)

    def twin(self):
        """A Bench with the same plan and the same deeds that goes its own way."""
        other = Bench(self.now)
        other._past = self._past
        return other
