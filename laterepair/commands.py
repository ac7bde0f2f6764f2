"""The lines that a desk is told: which words they have, and what these tell."""

from laterepair.bounds import MOST_PHASES, MOST_PLAYED_TICKS
from laterepair.checks import MOST_DELAY, is_name
from laterepair.errors import BadCommand, BadText, NoName
from laterepair.words import ended, losses_at, number_at, plan_parts, rule_steps, sum_ages, word_at, words_of

MOST_TURN = 99

# For each first word the kinds of what stands behind it. A name of the kind new need not stand for anything.
SHAPES = {
    "plan": ("new", "ticks"),
    "rule": ("new", "steps"),
    "join": ("new", "plan", "plan"),
    "both": ("new", "rule", "rule"),
    "either": ("new", "rule", "rule"),
    "turn": ("plan", "turn"),
    "trim": ("plan",),
    "put": ("plan", "phase", "sum"),
    "undo": (),
    "show": ("plan",),
    "tell": ("rule",),
    "names": (),
    "judge": ("plan", "rule", "delay"),
    "worst": ("plan", "rule"),
    "fewest": ("plan", "delay"),
    "order": ("plan", "plan", "rule", "delay"),
    "spare": ("plan", "rule", "delay"),
    "inside": ("rule", "rule"),
    "lets": ("rule", "losses"),
    "play": ("plan", "losses", "delay"),
    "known": ("plan", "losses", "delay"),
}


def name_word(words, at):
    """The name that must stand here, and the index behind it."""
    word = word_at(words, at)
    if not is_name(word):
        raise BadText(0, at)
    return word, at + 1


def turn_word(words, at):
    """The number of ticks of a turn, and the index behind it."""
    return number_at(words, at, 0, MOST_TURN), at + 1


def phase_word(words, at):
    """The phase, and the index behind it."""
    return number_at(words, at, 0, MOST_PHASES - 1), at + 1


def delay_word(words, at):
    """The delay, and the index behind it."""
    return number_at(words, at, 0, MOST_DELAY), at + 1


def losses_word(words, at):
    """The losses, and the index behind them."""
    if word_at(words, at) == "-":
        return "", at + 1
    losses = losses_at(words, at)
    if len(losses) > MOST_PLAYED_TICKS:
        raise BadText(0, at)
    return losses, at + 1


def sum_words(words, at):
    """The ages of a sum, and the index behind them."""
    return sum_ages(words, at, 0)


def ticks_words(words, at):
    """The parts of a plan, to the end of the line, and the index behind them."""
    return plan_parts(words, at), len(words)


def steps_words(words, at):
    """The steps by which a rule is made, to the end of the line, and the index behind them."""
    return rule_steps(words, at), len(words)


# For each kind what reads it.
READERS = {
    "new": name_word,
    "plan": name_word,
    "rule": name_word,
    "turn": turn_word,
    "phase": phase_word,
    "delay": delay_word,
    "losses": losses_word,
    "sum": sum_words,
    "ticks": ticks_words,
    "steps": steps_words,
}


def line_parts(words):
    """The pairs of a kind and what is told, for what stands behind the first word of a line."""
    if words[0] not in SHAPES:
        raise BadText(0, 0)
    kinds = SHAPES[words[0]]
    if words[0] == "fewest" and len(words) > 3:
        kinds = (*kinds, "rule")
    parts = []
    at = 1
    for kind in kinds:
        reader = READERS[kind]
        told, at = reader(words, at)
        parts.append((kind, told))
    ended(words, at)
    return parts


def command_of(line):
    """A pair: the first word of a line, and the pairs that line_parts tells."""
    try:
        words = words_of(line)
        return words[0], line_parts(words)
    except BadText as wrong:
        raise BadCommand(wrong.word) from None


def meant(parts, plans, rules):
    """What is told behind the first word of a line: what names stand for, and without the names that are new."""
    told = []
    for kind, value in parts:
        if kind == "plan":
            told.append(named(value, plans))
        elif kind == "rule":
            told.append(named(value, rules))
        elif kind != "new":
            told.append(value)
    return told


def named(name, names):
    """What this name stands for."""
    if name not in names:
        raise NoName(name)
    return names[name]
