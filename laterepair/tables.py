"""Tables of states: which ones are the least, and whether a table is closed.

Of two states with the same phase and place the one is less if less is known of its first plan, or as much, and more
is known of its second plan, or as much.
"""

from laterepair.bounds import MANY_SUMS


def members(rows):
    """An integer whose bits are the integers of the space of these rows."""
    sums = [0]
    for row in rows:
        sums = sums + [old ^ row for old in sums]
    return sum([1 << bits for bits in sums])


def content(spaces):
    """An integer: a state is less than another one, or equal, if its bits are all among those of the other one."""
    bits = members(spaces[0])
    for rows in spaces[1:]:
        bits = bits << MANY_SUMS | ((1 << MANY_SUMS) - 1 - members(rows))
    return bits


def is_covered(bits, lows):
    """Whether all bits of one of these are among the bits of the first one."""
    for low in lows:
        if low & bits == low:
            return True
    return False


def lowest(states):
    """Those of some unlike states to which no other one of them is less, in order."""
    groups = {}
    for state in states:
        groups.setdefault(state[:2], []).append((content(state[2]), state))
    least_states = []
    for group in groups.values():
        lows = []
        # What is less has a lesser integer, too.
        for bits, state in sorted(group):
            if not is_covered(bits, lows):
                lows.append(bits)
                least_states.append(state)
    return sorted(least_states)


def is_closed(field, states):
    """Whether from the beginning, and from each of these, one comes to states that are not less than one of these."""
    unlike = list({state: True for state in states})
    lows = {}
    for state in lowest(unlike):
        lows.setdefault(state[:2], []).append(content(state[2]))
    targets = [field.beginning()]
    for state in unlike:
        targets.extend([field.after(state, is_lost) for is_lost in (False, True)])
    for after in targets:
        if after is not None and not is_covered(content(after[2]), lows.get(after[:2], ())):
            return False
    return True
