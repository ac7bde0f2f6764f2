"""Sums whose values are known, as tuples of pairs: the ages of the rows of a sum as bits, and its value.

As in a Space the bits are reduced: each of them has a greatest bit that no other one of them has.
"""


def known_ahead(top):
    """The sums, of ages from 0 to top, that are known ahead of tick 0, when all rows are 0."""
    return tuple([(1 << age, 0) for age in range(top + 1)])


def left_of(bits, value, sums):
    """A pair: what these bits leave when known sums are taken out of them, and what the value leaves."""
    for known, worth in sums:
        if bits ^ known < bits:
            bits = bits ^ known
            value = value ^ worth
    return bits, value


def added_to(sums, added):
    """The tuple of the known sums when any further ones become known."""
    kept = list(sums)
    for pair in added:
        bits, value = left_of(pair[0], pair[1], kept)
        if bits > 0:
            kept = [(old ^ bits, worth ^ value) if old ^ bits < old else (old, worth) for old, worth in kept]
            kept.append((bits, value))
    return tuple(kept)


def a_tick_older(sums, top, is_mute):
    """The tuple of the known sums of ages from 0 to top, one tick later, at a tick that is mute or not."""
    # Only one of the reduced sums can have the greatest bit, so the others make all sums without it.
    older = [(bits << 1, value) for bits, value in sums if bits >> top == 0]
    # The row of a mute tick is 0.
    return (*older, (1, 0)) if is_mute else tuple(older)


def new_rows(before, sums, delay):
    """The pairs (age, row) of the rows of ages from 0 to delay that are known now, and not before."""
    known = {bits: True for bits, _ in before}
    fresh = [(bits, value) for bits, value in sums if bits & (bits - 1) == 0 and bits not in known]
    return [(bits.bit_length() - 1, value) for bits, value in fresh if bits >> (delay + 1) == 0]
