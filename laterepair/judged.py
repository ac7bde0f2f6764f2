"""Whether each row is known in time, for all losses that a rule lets."""

from laterepair.arguments import check_limit, check_setting
from laterepair.fields import Field, is_late, losses_along, searched
from laterepair.spaces import Space
from laterepair.standings import standing_of
from laterepair.tables import lowest
from laterepair.verdicts import Verdict


class InTime(Verdict):
    """The plan is in time: a closed table of standings."""

    def __init__(self, table):
        self.table = table

    def __bool__(self):
        return True

    def __eq__(self, other):
        return isinstance(other, InTime) and self.table == other.table


class Late(Verdict):
    """The plan is late: losses, and the rows of a stream that agrees with that of rows 0 in all packets that come."""

    def __init__(self, losses, other):
        self.losses = losses
        self.other = other

    def __bool__(self):
        return False

    def __eq__(self, other):
        return isinstance(other, Late) and self.losses == other.losses and self.other == other.other


def judge(plan, rule, delay, limit=2000):
    """An InTime if no losses that the rule lets make a row late, otherwise a Late with the shortest ones."""
    check_setting(plan, rule, delay)
    check_limit(limit)
    field = Field([plan], rule, delay)
    found, link = searched(field, is_late, delay, limit, "standings")
    if link is None:
        return InTime(tuple([standing_of(state) for state in lowest(list(found))]))
    losses = losses_along(found, link)
    state, letter = link
    spaces = field.after(state, letter == "x")[2]
    return Late(losses, other_stream(spaces[0], delay, len(losses)))


def other_stream(rows, delay, ticks):
    """The rows of a stream in which nothing that is known tells of the row that is late."""
    # All rows with an age above the delay were known in time, so they are 0 in this stream, too.
    bits = Space(*rows).missed(delay)
    return tuple([bits >> (ticks - 1 - at) & 1 for at in range(ticks)])
