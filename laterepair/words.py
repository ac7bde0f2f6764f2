"""Words of texts: what the words from some index on tell, and which one of them cannot stand.

Each function takes the list of all words and the index at which it begins. It raises BadText(0, word)
with the index of the first word that cannot stand behind those ahead of it, or the number of the words
if one is missing.
"""

from laterepair.bounds import MOST_BITS, MOST_OPEN, MOST_PAIRS, MOST_PHASES, MOST_SUMS, RULE_BOUNDS
from laterepair.checks import MOST_AGE, is_losses
from laterepair.errors import BadText


def words_of(text):
    """The words of a text; a value that is no string has none that can stand."""
    if not isinstance(text, str):
        raise BadText(0, 0)
    return text.split(" ")


def word_at(words, at):
    """The word with this index, None if it is missing."""
    if at < len(words):
        return words[at]
    return None


def ended(words, at):
    """Raises BadText if a word stands here, where none can stand any more."""
    if at < len(words):
        raise BadText(0, at)


def fixed_at(words, at, fixed):
    """Raises BadText unless this fixed word stands here."""
    if word_at(words, at) != fixed:
        raise BadText(0, at)


def tells_natural(word):
    """Whether this word, or None, is an integer from 0 on as `str` writes it."""
    if word is None or not (word.isascii() and word.isdigit()):
        return False
    return word[0] != "0" or len(word) == 1


def tells_number(word, least, most):
    """Whether this word, or None, is an integer from least to most as `str` writes it."""
    # A word of more digits is too great, and might be too long for int.
    if not tells_natural(word) or len(word) > len(str(most)):
        return False
    return least <= int(word) <= most


def natural_at(words, at):
    """The integer from 0 on that must stand here."""
    word = word_at(words, at)
    if not tells_natural(word):
        raise BadText(0, at)
    return int(word)


def number_at(words, at, least, most):
    """The integer from least to most that must stand here."""
    word = word_at(words, at)
    if not tells_number(word, least, most):
        raise BadText(0, at)
    return int(word)


def losses_at(words, at):
    """The losses, of at least one tick, that must stand here."""
    word = word_at(words, at)
    if not is_losses(word) or word == "":
        raise BadText(0, at)
    return word


def space_rows(words, at):
    """The reduced rows that stand from here to the end."""
    if word_at(words, at) == "-":
        ended(words, at + 1)
        return ()
    rows = [number_at(words, at, 1, MOST_BITS)]
    for place in range(at + 1, len(words)):
        row = number_at(words, place, 1, MOST_BITS)
        if not stands_behind(row, rows):
            raise BadText(0, place)
        rows.append(row)
    return tuple(rows)


def stands_behind(row, rows):
    """Whether a reduced row can stand behind these: it has a new greatest bit, and none of theirs."""
    if row.bit_length() <= rows[-1].bit_length():
        return False
    return not any([row >> (other.bit_length() - 1) & 1 for other in rows])


def sum_ages(words, at, least):
    """The ages, from least on, of the sum that begins here, and the index behind it."""
    ages = [number_at(words, at, least, MOST_AGE)]
    at = at + 1
    while tells_number(word_at(words, at), 0, MOST_AGE):
        ages.append(number_at(words, at, ages[-1] + 1, MOST_AGE))
        at = at + 1
    return tuple(ages), at


def tick_sums(words, at, least):
    """The sums, of ages from least on, that begin here, and the index behind them."""
    sums = []
    while True:
        ages, at = sum_ages(words, at, least)
        if ages in sums:
            raise BadText(0, at - 1)
        sums.append(ages)
        if word_at(words, at) != ",":
            return tuple(sums), at
        if len(sums) == MOST_SUMS:
            raise BadText(0, at)
        at = at + 1


def tick_parts(words, at):
    """The sums of the tick that begins here, whether it is mute, and the index behind it."""
    mute = word_at(words, at) == "mute"
    if mute:
        at = at + 1
    if word_at(words, at) == "-":
        return (), mute, at + 1
    sums, at = tick_sums(words, at, 1 if mute else 0)
    return sums, mute, at


def plan_parts(words, at):
    """For each tick of the plan that stands from here to the end: its sums, and whether it is mute."""
    parts = []
    while True:
        sums, mute, at = tick_parts(words, at)
        parts.append((sums, mute))
        if at == len(words):
            return parts
        if words[at] != "/" or len(parts) == MOST_PHASES:
            raise BadText(0, at)
        at = at + 1


def machine_pairs(words, at):
    """The pairs of the machine that begin here, and the index behind them."""
    pairs = []
    while True:
        kept = number_at(words, at, 0, MOST_PAIRS - 1)
        lost = None
        if word_at(words, at + 1) != "-":
            lost = number_at(words, at + 1, 0, MOST_PAIRS - 1)
        pairs.append((kept, lost))
        at = at + 2
        if word_at(words, at) != "/":
            return tuple(pairs), at
        at = at + 1


def simple_step(words, at):
    """The first word and the arguments of the rule without brackets that begins here, and the index behind it."""
    word = word_at(words, at)
    if word == "machine":
        pairs, at = machine_pairs(words, at + 1)
        return (word, pairs), at
    if word not in RULE_BOUNDS:
        raise BadText(0, at)
    numbers = []
    at = at + 1
    for _, least, most in RULE_BOUNDS[word]:
        numbers.append(number_at(words, at, least, most))
        at = at + 1
    return (word, tuple(numbers)), at


def rule_steps(words, at):
    """The steps by which the rule that stands from here to the end is made, parts ahead of what is made of them.

    A step is a pair: a first word and the arguments, or a sign and () for the last two rules that were made.
    """
    steps = []
    opened = []
    while True:
        while word_at(words, at) == "(":
            if len(opened) == MOST_OPEN:
                raise BadText(0, at)
            opened.append(None)
            at = at + 1
        step, at = simple_step(words, at)
        steps.append(step)
        while opened and opened[-1] is not None and word_at(words, at) == ")":
            steps.append((opened.pop(), ()))
            at = at + 1
        if not opened:
            ended(words, at)
            return steps
        if opened[-1] is not None or word_at(words, at) not in ("&", "|"):
            raise BadText(0, at)
        opened[-1] = words[at]
        at = at + 1


def packet_parts(words, at):
    """The number of the tick, and the tuple of the values, of the packet that stands from here to the end."""
    tick = natural_at(words, at)
    fixed_at(words, at + 1, ":")
    if word_at(words, at + 2) == "-":
        ended(words, at + 3)
        return tick, ()
    parts = [natural_at(words, place) for place in range(at + 2, max(at + 3, len(words)))]
    return tick, tuple(parts)
