"""A receiver that leaves nothing out: slow and plain, over the rows of all ticks, apart from how the package does it."""

import random

from laterepair.plans import Plan, Tick
from laterepair.spaces import Space


class SlowReceiver:
    """What all packets determine that were heard; sums are written by ticks: bit t for the row of tick t."""

    def __init__(self, plan, delay):
        self.plan, self.delay, self.now, self.told = plan, delay, -1, {}
        # For each first tick a sum that begins there, with its value; no other sum has its first tick.
        self.sums = {}

    def copied(self):
        other = SlowReceiver(self.plan, self.delay)
        other.now, other.told, other.sums = self.now, dict(self.told), dict(self.sums)
        return other

    def learn(self, bits, value):
        for first, (known, worth) in self.sums.items():
            if bits >> first & 1:
                bits, value = bits ^ known, value ^ worth
        if bits:
            first = (bits & -bits).bit_length() - 1
            for other, (known, worth) in self.sums.items():
                if known >> first & 1:
                    self.sums[other] = (known ^ bits, worth ^ value)
            self.sums[first] = (bits, value)

    def wait(self, ticks=1):
        for _ in range(ticks):
            self.now += 1
            if self.plan.tick_at(self.now).mute:
                self.learn(2 ** self.now, 0)

    def known_rows(self):
        return {first for first, (bits, _) in self.sums.items() if bits == 2 ** first}

    def hear(self, packet):
        if packet.tick < self.now - self.delay:
            return ()
        if packet.tick > self.now:
            self.wait(packet.tick - self.now)
        before = self.known_rows()
        for ages, value in zip(self.plan.tick_at(packet.tick).sums, packet.parts):
            self.learn(sum(2 ** (packet.tick - age) for age in ages if age <= packet.tick), value)
        fresh = tuple((tick, self.sums[tick][1]) for tick in sorted(self.known_rows() - before)
                      if tick >= self.now - self.delay)
        self.told.update(fresh)
        return fresh

    def late(self):
        return tuple(tick for tick in range(self.now - self.delay)
                     if tick not in self.told and not self.plan.tick_at(tick).mute)

    def known(self, most):
        rows = [2 ** age for age in range(most + 1) if age > self.now]
        for first, (bits, _) in self.sums.items():
            if first >= self.now - most:
                rows.append(sum(2 ** (self.now - tick) for tick in range(first, self.now + 1) if bits >> tick & 1))
        return Space(*rows)

    def worth(self, bits):
        ticks = [self.now - age for age in range(9) if bits >> age & 1 and age <= self.now]
        left, value = sum(2 ** tick for tick in ticks), 0
        for first, (known, worth) in self.sums.items():
            if left >> first & 1:
                left, value = left ^ known, value ^ worth
        return None if left else value


def some_sums(chooser, many, least):
    """Up to so many unlike sums of ages from least on."""
    found = []
    for _ in range(many):
        ages = tuple(sorted(chooser.sample(range(least, 9), chooser.choice((1, 1, 2, 2, 3, 9 - least)))))
        if ages not in found:
            found.append(ages)
    return found


def some_plan(chooser, phases=None, mute=0.25):
    """A plan of any kind."""
    ticks = []
    for _ in range(phases or chooser.randint(1, 6)):
        is_mute = chooser.random() < mute
        sums = some_sums(chooser, chooser.choice((0, 1, 1, 2, 3, 6)), 1 if is_mute else 0)
        if not is_mute and (0,) not in sums and len(sums) < 6 and chooser.random() < 0.7:
            sums.insert(0, (0,))
        ticks.append(Tick(*sums, mute=is_mute))
    return Plan(*ticks)


def some_losses(chooser, ticks, rate):
    """Losses of so many ticks, of which about such a share is lost."""
    return "".join("x" if chooser.random() < rate else "." for _ in range(ticks))


def chosen(seed):
    return random.Random(seed)
