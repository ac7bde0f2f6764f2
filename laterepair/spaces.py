"""Spaces: sets of sums of rows that have 0 and, with each two, their exclusive or."""

from laterepair.bounds import MOST_BITS
from laterepair.checks import is_within
from laterepair.errors import BadCount, BadSpace
from laterepair.words import space_rows, words_of


def lessened(bits, rows):
    """The least integer whose exclusive or with bits is in the space of these reduced rows."""
    rest = bits
    for row in rows:
        # The result is less just if the greatest bit of the row was set; no other row has this bit.
        if rest ^ row < rest:
            rest = rest ^ row
    return rest


def widened(rows, added):
    """The ascending tuple of the reduced rows of the space that reduced rows and any further integers make."""
    kept = list(rows)
    for row in added:
        rest = lessened(row, kept)
        if rest > 0:
            kept = [min(old, old ^ rest) for old in kept]
            kept.append(rest)
    return tuple(sorted(kept))


def reduced(rows):
    """The ascending tuple of the reduced rows of the space that these integers make."""
    return widened((), rows)


def greatest_bit(row):
    """The greatest bit of an integer above 0, as an integer with this bit alone."""
    return 1 << (row.bit_length() - 1)


def even_rows(rows, many):
    """Integers of many bits that make all those of so many bits that meet these reduced rows evenly."""
    tops = [greatest_bit(row) for row in rows]
    free = [1 << bit for bit in range(many) if (1 << bit) not in tops]
    # Each row has one of the greatest bits, its own: it makes the meeting even if a free bit makes it odd.
    return [bit + sum([greatest_bit(row) for row in rows if row & bit]) for bit in free]


class Space:
    """The space that some integers make."""

    MOST = 15

    def __init__(self, *rows):
        if not all([is_within(row, 0, MOST_BITS) for row in rows]):
            raise BadSpace("rows")
        self.rows = reduced(rows)

    def __len__(self):
        return len(self.rows)

    def __iter__(self):
        return iter(self.rows)

    def __contains__(self, x):
        return is_within(x, 0, MOST_BITS) and lessened(x, self.rows) == 0

    def __eq__(self, other):
        return isinstance(other, Space) and self.rows == other.rows

    def __str__(self):
        if not self.rows:
            return "-"
        return " ".join([str(row) for row in self.rows])

    def __add__(self, other):
        if not isinstance(other, Space):
            raise BadSpace("other")
        rows = self.rows + other.rows
        return Space(*rows)

    def __and__(self, other):
        if not isinstance(other, Space):
            raise BadSpace("other")
        # Behind the reduction a row without upper half tells that an integer of one, its lower half,
        # was made away with by integers of the other.
        upper = Space.MOST + 1
        doubled = [row << upper | row for row in self.rows]
        lifted = [row << upper for row in other.rows]
        rows = [row for row in reduced(doubled + lifted) if row <= MOST_BITS]
        return Space(*rows)

    def within(self, other):
        """Whether all integers of this space are in the other one."""
        if not isinstance(other, Space):
            raise BadSpace("other")
        return all([lessened(row, other.rows) == 0 for row in self.rows])

    def older(self):
        """The space with all ages greater by 1."""
        rows = [row << 1 for row in self.rows]
        return Space(*rows)

    def below(self, many):
        """The space of the integers whose bits are all below many."""
        if not is_within(many, 0, Space.MOST + 1):
            raise BadCount(many)
        rows = [row for row in self.rows if row.bit_length() <= many]
        return Space(*rows)

    def tells(self, age):
        """Whether this value is an age that the space tells."""
        return is_within(age, 0, Space.MOST) and (1 << age) in self.rows

    @property
    def told(self):
        """The ascending tuple of the ages that the space tells."""
        return tuple([age for age in range(Space.MOST + 1) if (1 << age) in self.rows])

    def rest(self, bits):
        """The least integer whose exclusive or with bits is in the space."""
        if not is_within(bits, 0, MOST_BITS):
            raise BadSpace("bits")
        return lessened(bits, self.rows)

    def missed(self, age):
        """The least integer with the bit age that meets each integer of the space evenly, None if there is none."""
        if not is_within(age, 0, Space.MOST):
            raise BadCount(age)
        evens = even_rows(self.rows, Space.MOST + 1)
        having = [bits for bits in evens if bits >> age & 1]
        if not having:
            return None
        # Any two with the bit differ by one without it, so the least one is what those without it leave of any.
        without = [bits ^ having[0] if bits >> age & 1 else bits for bits in evens]
        return lessened(having[0], reduced(without))

    @staticmethod
    def whole(many):
        """The space of all integers whose bits are below many."""
        if not is_within(many, 0, Space.MOST + 1):
            raise BadCount(many)
        rows = [1 << bit for bit in range(many)]
        return Space(*rows)

    @classmethod
    def read(cls, text):
        """The space whose `str` is this text."""
        rows = space_rows(words_of(text), 0)
        return cls(*rows)
