"""Rules told back from losses that were seen."""

from laterepair.bounds import MOST_BURST, MOST_GAP, MOST_TOTAL, MOST_WIDTH
from laterepair.checks import is_losses, is_within
from laterepair.errors import BadCount, BadLosses
from laterepair.machines import fewest_ways
from laterepair.rules import Burst, Machine, Total, Window

# The place of the table of tight_machine behind which nothing is lost any more.
REST = 1


def check_seen(losses):
    """Raises BadLosses with the first one of these that is no losses."""
    for text in losses:
        if not is_losses(text):
            raise BadLosses(text)


def tight_burst(*losses):
    """The tightest Burst that lets all of these, None if nothing is lost, or too many in a row."""
    check_seen(losses)
    runs = [len(run) for text in losses for run in text.split(".")]
    most = max(runs, default=0)
    if most == 0 or most > MOST_BURST:
        return None
    # Kept packets at the beginning and at the end do not stand between two lost ones.
    gaps = [len(gap) for text in losses for gap in text.strip(".").split("x") if gap]
    return Burst(most, min([MOST_GAP, *gaps]))


def tight_window(width, *losses):
    """The Window of this width with the least `most` that lets all of these."""
    if not is_within(width, 1, MOST_WIDTH):
        raise BadCount(width)
    check_seen(losses)
    counts = [text[at:at + width].count("x") for text in losses for at in range(len(text))]
    return Window(max(counts, default=0), width)


def tight_total(*losses):
    """The Total with the least `most` that lets all of these, None if there is none."""
    check_seen(losses)
    most = max([text.count("x") for text in losses], default=0)
    return Total(most) if most <= MOST_TOTAL else None


def tight_machine(*losses):
    """The Machine that lets just these, all that begin them, and all of these with kept packets behind them."""
    check_seen(losses)
    pairs = fewest_ways(seen_table(losses))
    return Machine(*pairs)


def seen_table(losses):
    """A table with a place of its own behind each text that begins one of these losses."""
    table = [[REST, None], [REST, None]]
    for text in losses:
        place = 0
        for letter in text:
            side = 1 if letter == "x" else 0
            if table[place][side] is None or table[place][side] == REST:
                table[place][side] = len(table)
                table.append([REST, None])
            place = table[place][side]
    return [(kept, lost) for kept, lost in table]
