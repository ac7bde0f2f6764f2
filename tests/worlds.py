"""What is known behind losses, by sets of all sums: slow and plain, and apart from how the package makes it.

A state is a tuple: the phase, the place, and for each plan the frozenset of all sums that are known.
"""

from math import lcm

from laterepair.rules import Machine


def spanned(sums, added):
    """The frozenset of all exclusive ors of one of these sums and some of those that are added."""
    for bits in added:
        sums = sums | {old ^ bits for old in sums}
    return frozenset(sums)


def bits_of(ages, top):
    """A sum without the rows whose age is above top."""
    return sum(2 ** age for age in ages if age <= top)


def rows_of(sums):
    """The reduced rows: of all sums with the same greatest bit the least one has none of the other greatest bits."""
    lengths = sorted({bits.bit_length() for bits in sums} - {0})
    return tuple(min(bits for bits in sums if bits.bit_length() == length) for length in lengths)


def first_state(plans, top):
    return (0, 0, tuple(frozenset(range(2 ** (top + 1))) for _ in plans))


def state_after(plans, rule, top, state, is_lost):
    """The state behind one more tick, None if the rule does not let the loss."""
    phase, place, known = state
    place = rule.ways[place][1 if is_lost else 0]
    if place is None:
        return None
    after = []
    for plan, sums in zip(plans, known):
        tick = list(plan)[phase % len(plan)]
        added = [1] if tick.mute else []
        if not is_lost:
            added += [bits_of(ages, top) for ages in tick.sums]
        after.append(spanned({bits * 2 for bits in sums if bits < 2 ** top}, added))
    return ((phase + 1) % lcm(*[len(plan) for plan in plans]), place, tuple(after))


def states_along(plans, rule, top, losses):
    """The states behind no ticks, one tick and so on; None from a loss on that the rule does not let."""
    states = [first_state(plans, top)]
    for letter in losses:
        last = states[-1]
        states.append(None if last is None else state_after(plans, rule, top, last, letter == "x"))
    return states


def is_late(state, age):
    return 2 ** age not in state[2][0]


def is_parted(state, age):
    return 2 ** age in state[2][1] and 2 ** age not in state[2][0]


def search(plans, rule, top, is_end=lambda state: False, stops=True):
    """A pair: the set of the states that are reached by fewer ticks than an end, and how many ticks lead to one.

    If the search does not stop, the states are those that are reached without an end on the way.
    """
    known = {first_state(plans, top)}
    level = set(known)
    ticks = 0
    while level:
        ticks += 1
        after = {state_after(plans, rule, top, state, is_lost) for state in level for is_lost in (False, True)} - {None}
        ends = {state for state in after if is_end(state)}
        if ends and stops:
            return known, ticks
        level = after - ends - known
        known |= level
    return known, None


def is_less(one, other):
    """Whether the one state, or an equal one, is less than the other one."""
    if one[:2] != other[:2] or not one[2][0] <= other[2][0]:
        return False
    return all(first >= second for first, second in zip(one[2][1:], other[2][1:]))


def least_states(states):
    return {state for state in states if not any(other != state and is_less(other, state) for other in states)}


def closed_by_hand(plans, rule, top, states):
    """Whether the beginning and all steps from these states lead to what is not less than one of them."""
    targets = [first_state(plans, top)]
    for state in states:
        targets += [state_after(plans, rule, top, state, is_lost) for is_lost in (False, True)]
    return all(any(is_less(state, target) for state in states) for target in targets if target is not None)


def state_of(standing):
    return (standing.phase, standing.place, (spanned({0}, standing.space.rows),))


def pair_state(pair):
    return (pair.phase, pair.place, (spanned({0}, pair.first.rows), spanned({0}, pair.second.rows)))


def sorted_parts(states):
    """Phase, place and reduced rows of each of these states, in order."""
    return sorted((phase, place, *[rows_of(sums) for sums in known]) for phase, place, known in states)


def parts_of(table):
    """Phase, place and reduced rows of each Standing of a tuple."""
    return [(one.phase, one.place, one.space.rows) for one in table]


def known_sums(plan, losses, top, are_older_known):
    """All sums of rows of ages 0 to top whose values the packets that came determine, from the definition alone.

    Sums are written by the numbers of the ticks first: bit t for the row of tick t.
    """
    ticks = len(losses)
    units = [2 ** tick for tick in range(ticks)
             if plan.tick_at(tick).mute or (are_older_known and tick < ticks - 1 - top)]
    for tick, letter in enumerate(losses):
        if letter == ".":
            units += [sum(2 ** (tick - age) for age in ages if age <= tick) for ages in plan.tick_at(tick).sums]
    found = set()
    for bits in spanned({0}, units):
        made_at = [tick for tick in range(ticks) if bits >> tick & 1]
        if all(tick >= ticks - 1 - top for tick in made_at):
            found.add(sum(2 ** (ticks - 1 - tick) for tick in made_at))
    return spanned(found, [2 ** age for age in range(ticks, top + 1)])


def agrees(plan, losses, other, at):
    """Whether these rows of 0 and 1 tell 0 in all packets that come, with 0 at mute ticks, and 1 at this tick."""
    if other[at] != 1 or len(other) != len(losses):
        return False
    for tick, letter in enumerate(losses):
        if plan.tick_at(tick).mute and other[tick]:
            return False
        for ages in plan.tick_at(tick).sums if letter == "." else ():
            if sum(other[tick - age] for age in ages if age <= tick) & 1:
                return False
    return True


def block_rule(width, most):
    """At most so many are lost in each block of so many ticks."""
    pairs = []
    for at in range(width):
        for lost in range(most + 1):
            base = (at + 1) % width * (most + 1)
            behind = [base, base] if at == width - 1 else [base + lost, base + lost + 1]
            pairs.append((behind[0], behind[1] if lost < most else None))
    return Machine(*pairs)


def singles_and_double(many):
    """So many single losses, with a kept packet behind each, and then two in a row."""
    pairs = []
    for at in range(many):
        pairs += [(2 * at, 2 * at + 1), (2 * at + 2, None)]
    last = 2 * many
    return Machine(*pairs, (last, last + 1), (last + 2, last + 2), (last + 2, None))
