"""Senders and receivers of live streams."""

from laterepair.bounds import MOST_PLAYED_TICKS
from laterepair.checks import MOST_AGE, is_delay, is_losses, is_natural, is_within
from laterepair.errors import BadCount, BadDelay, BadLosses, BadPacket, BadSpace, BadStream
from laterepair.heard import a_tick_older, added_to, known_ahead, left_of, new_rows
from laterepair.pasts import Past, Trial, taken_back
from laterepair.plans import Plan
from laterepair.spaces import Space
from laterepair.words import packet_parts, words_of

MOST_ROW = 10 ** 30
MOST_JUMP = 100
MOST_WAIT = 100


class Packet:
    """What is sent at a tick: its number, and the values of its sums."""

    def __init__(self, tick, parts):
        self.tick = tick
        self.parts = parts

    def __eq__(self, other):
        return isinstance(other, Packet) and self.tick == other.tick and self.parts == other.parts

    def __str__(self):
        values = " ".join([str(part) for part in self.parts]) if self.parts else "-"
        return f"{self.tick} : {values}"

    @classmethod
    def read(cls, text):
        """The packet of integers whose `str` is this text."""
        tick, parts = packet_parts(words_of(text), 0)
        return cls(tick, parts)


def is_parts(value):
    """Whether this is a tuple of integers from 0 on."""
    return isinstance(value, tuple) and all([is_natural(part) for part in value])


def is_row(value):
    """Whether this can be a row that is sent."""
    return is_within(value, 0, MOST_ROW)


def check_packet(packet, plan, now):
    """Raises BadPacket for what is no packet of this plan, or is too far ahead."""
    if not isinstance(packet, Packet):
        raise BadPacket("packet")
    if not is_natural(packet.tick):
        raise BadPacket("tick")
    if not is_parts(packet.parts) or len(packet.parts) != len(plan.tick_at(packet.tick)):
        raise BadPacket("parts")
    if packet.tick > now + MOST_JUMP:
        raise BadPacket("jump")


class Sender:
    """Makes the rows of a stream, and their packets by a plan."""

    def __init__(self, plan):
        if not isinstance(plan, Plan):
            raise BadStream("plan")
        self.plan = plan
        self._past = Past(())

    @property
    def ticks(self):
        """How many ticks were sent."""
        return self._past.depth

    def send(self, row=None):
        """The Packet of the next tick, with this row, or with none if the tick is mute."""
        number = self.ticks
        tick = self.plan.tick_at(number)
        is_right = row is None if tick.mute else is_row(row)
        if not is_right:
            raise BadStream("row")
        made = 0 if tick.mute else row
        recent = (made, *self._past.held[:MOST_AGE])
        self._past = Past(recent, "send", self._past)
        return Packet(number, tick.packed(dict(enumerate(recent))))

    def undo(self):
        """Takes the last tick back."""
        self._past = taken_back(self._past)


class Receiver:
    """Hears packets of a stream, and tells the rows that they determine."""

    def __init__(self, plan, delay):
        if not isinstance(plan, Plan):
            raise BadStream("plan")
        if not is_delay(delay):
            raise BadStream("delay")
        self.plan = plan
        self.delay = delay
        # A packet that is not too old has no rows with a greater age, so older ones can be left out for good.
        self._top = delay + MOST_AGE
        self._past = Past((-1, known_ahead(self._top), ()))

    @property
    def now(self):
        """The tick at which the receiver stands."""
        return self._past.held[0]

    @property
    def told(self):
        """A dict from ticks to the rows that became known with an age of at most the delay."""
        pairs = []
        past = self._past
        while past is not None:
            pairs.extend(past.held[2])
            past = past.before
        return dict(sorted(pairs))

    @property
    def late(self):
        """The ascending tuple of the ticks, not mute, with an age above the delay, whose rows were not told."""
        told = self.told
        mutes = [tick.mute for tick in self.plan]
        return tuple([at for at in range(self.now - self.delay) if at not in told and not mutes[at % len(mutes)]])

    def hear(self, packet):
        """Adds a packet; the pairs (tick, row) of the rows that become known in time by it."""
        check_packet(packet, self.plan, self.now)
        if packet.tick < self.now - self.delay:
            return ()
        then = max(self.now, packet.tick)
        before = self._sums_at(then)
        masks = self.plan.tick_at(packet.tick).masks
        sums = added_to(before, [(mask << (then - packet.tick), part) for mask, part in zip(masks, packet.parts)])
        fresh = tuple(sorted([(then - age, row) for age, row in new_rows(before, sums, self.delay)]))
        self._past = Past((then, sums, fresh), "hear", self._past)
        return fresh

    def __iadd__(self, other):
        self.hear(other)
        return self

    def wait(self, ticks=1):
        """Lets so many ticks go by whose packets did not come."""
        if not is_within(ticks, 1, MOST_WAIT):
            raise BadCount(ticks)
        then = self.now + ticks
        self._past = Past((then, self._sums_at(then), ()), "wait", self._past)

    def _sums_at(self, then):
        """The sums that are known at a tick that is not earlier than now, without further packets."""
        sums = self._past.held[1]
        for number in range(self.now + 1, then + 1):
            sums = a_tick_older(sums, self._top, self.plan.tick_at(number).mute)
        return sums

    def known(self, most):
        """The Space of all sums of rows with ages from 0 to most whose values are determined."""
        if not is_within(most, 0, self.delay):
            raise BadDelay(most)
        rows = [bits for bits, _ in self._past.held[1] if bits >> (most + 1) == 0]
        return Space(*rows)

    def worth(self, bits):
        """The value of the sum with these ages, None if it is not known."""
        if not is_within(bits, 0, (2 << self.delay) - 1):
            raise BadSpace("bits")
        left, value = left_of(bits, 0, self._past.held[1])
        return value if left == 0 else None

    def undo(self):
        """Takes the last wait, or the last packet that was not too old, back."""
        self._past = taken_back(self._past)

    def trial(self):
        """A block behind which all is as when it began."""
        return Trial(self)

    def tried(self, work):
        """What this work on the receiver returns, in a trial."""
        with self.trial() as same:
            return work(same)

    def twin(self):
        """A Receiver that stands as this one and goes its own way."""
        other = Receiver(self.plan, self.delay)
        other._past = self._past
        return other


def play(plan, rows, losses, delay):
    """The Receiver behind the ticks of some losses, each kept packet heard at its tick."""
    if not isinstance(plan, Plan):
        raise BadStream("plan")
    if not isinstance(rows, (list, tuple)) or not all([is_row(row) for row in rows]):
        raise BadStream("rows")
    if not is_losses(losses) or len(losses) > MOST_PLAYED_TICKS:
        raise BadLosses(losses)
    receiver = Receiver(plan, delay)
    sender = Sender(plan)
    used = 0
    for number, letter in enumerate(losses):
        if plan.tick_at(number).mute:
            packet = sender.send()
        else:
            packet = sender.send(rows[used] if used < len(rows) else 0)
            used = used + 1
        if letter == "x":
            receiver.wait()
        else:
            receiver.hear(packet)
    return receiver
