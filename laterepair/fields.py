"""Plans that are played together with equal losses: what is known of their rows, tick by tick.

A *state* is a tuple (phase, place, spaces); spaces has, for each of the plans, the tuple of the reduced rows of the
space of what is known of it. A *link* is a tuple (state, letter): what a state is reached from, and by which packet.
"""

from math import lcm

from laterepair.errors import TooMany
from laterepair.spaces import widened


def tick_gains(tick, top):
    """A pair: the sums that become known at this tick with its packet kept, and with its packet lost."""
    lost = [1] if tick.mute else []
    kept = [mask & ((2 << top) - 1) for mask in tick.masks]
    return (lost + kept, lost)


class Field:
    """One plan or several ones under a rule, with spaces of the ages from 0 to top."""

    def __init__(self, played, rule, top):
        many = 1
        for plan in played:
            many = lcm(many, len(plan))
        self.phases = many
        self.top = top
        self._ways = rule.ways
        self._gains = [[tick_gains(plan.tick_at(number), top) for plan in played] for number in range(many)]

    def beginning(self):
        """The state behind no losses."""
        whole = tuple([1 << age for age in range(self.top + 1)])
        return (0, 0, tuple([whole for _ in self._gains[0]]))

    def after(self, state, is_lost):
        """The state behind one more tick, None if its packet may not be lost."""
        phase, place, spaces = state
        kept_place, lost_place = self._ways[place]
        behind = lost_place if is_lost else kept_place
        if behind is None:
            return None
        grown = []
        for rows, (kept, lost) in zip(spaces, self._gains[phase]):
            # Only one of the reduced rows can have the greatest bit, so the others make all integers without it.
            older = [row << 1 for row in rows if row >> self.top == 0]
            grown.append(widened(older, lost if is_lost else kept))
        return ((phase + 1) % self.phases, behind, tuple(grown))

    def all_along(self, losses):
        """The list of the states behind no ticks, one tick, and so on, up to all losses, which the rule lets."""
        states = [self.beginning()]
        for letter in losses:
            states.append(self.after(states[-1], letter == "x"))
        return states


def is_late(state, age):
    """Whether what is known of the only plan does not tell this age."""
    return (1 << age) not in state[2][0]


def is_parted(state, age):
    """Whether what is known of the second plan tells this age, and what is known of the first one does not."""
    first, second = state[2]
    return (1 << age) in second and (1 << age) not in first


def next_level(field, level, found, is_end, age):
    """The states, put into found, that are first found behind one more tick; and the links that lead to an end."""
    fresh = []
    ends = []
    for state in level:
        for letter in ".x":
            after = field.after(state, letter == "x")
            if after is None or after in found:
                continue
            if is_end is not None and is_end(after, age):
                ends.append((state, letter))
            else:
                found[after] = (state, letter)
                fresh.append(after)
    return fresh, ends


def explored(field, is_end, age, limit, what):
    """A dict from the states that are reached without an end on the way to their links, those of fewer ticks first.

    The beginning has the link None. Raises TooMany with what, and the limit, if there are more states than that.
    """
    found = {field.beginning(): None}
    level = list(found)
    while level:
        level, _ = next_level(field, level, found, is_end, age)
        if len(found) > limit:
            raise TooMany(what, limit)
    return found


def searched(field, is_end, age, limit, what):
    """A pair: what explored tells, and None; or what it tells up to the first end, and a link that leads to this end.

    Raises TooMany if more states than the limit are reached behind fewer ticks than an end.
    """
    found = {field.beginning(): None}
    level = list(found)
    while level:
        level, ends = next_level(field, level, found, is_end, age)
        # What is reached behind as many ticks as the end does not count for the limit.
        if ends:
            return found, ends[0]
        if len(found) > limit:
            raise TooMany(what, limit)
    return found, None


def losses_along(found, link):
    """The losses that lead from the beginning along this link."""
    letters = []
    while link is not None:
        state, letter = link
        letters.append(letter)
        link = found[state]
    return "".join(letters[::-1])
