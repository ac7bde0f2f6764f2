"""Readers of the texts of settings, packets and verdicts."""

from laterepair.bounds import MOST_WRITTEN
from laterepair.checks import MOST_DELAY
from laterepair.errors import BadText
from laterepair.judged import InTime, Late
from laterepair.plans import Plan, ticks_of
from laterepair.rules import made_by
from laterepair.spaces import Space
from laterepair.standings import Standing
from laterepair.streams import Packet
from laterepair.words import ended, fixed_at, losses_at, number_at, packet_parts, plan_parts, rule_steps, space_rows


def lines_of(text):
    """The lines of a text; a value that is no string has none that can stand."""
    if not isinstance(text, str):
        raise BadText(0, 0)
    return text.split("\n")


def line_told(lines, number, tell):
    """What a function tells of the words of this line, its errors being told with the number of the line."""
    if number >= len(lines):
        raise BadText(number, 0)
    try:
        return tell(lines[number].split(" "))
    except BadText as wrong:
        raise BadText(number, wrong.word) from None


def no_line_at(lines, number):
    """Raises BadText if there is a line with this number, where none can stand any more."""
    if number < len(lines):
        raise BadText(number, 0)


def plan_line(words):
    """The parts of the plan of a setting."""
    fixed_at(words, 0, "plan")
    return plan_parts(words, 1)


def rule_line(words):
    """The steps by which the rule of a setting is made."""
    fixed_at(words, 0, "rule")
    return rule_steps(words, 1)


def delay_line(words):
    """The delay of a setting."""
    fixed_at(words, 0, "delay")
    delay = number_at(words, 1, 0, MOST_DELAY)
    ended(words, 2)
    return delay


def read_setting(text):
    """The triple of the plan, the rule and the delay with this text."""
    lines = lines_of(text)
    parts = line_told(lines, 0, plan_line)
    steps = line_told(lines, 1, rule_line)
    delay = line_told(lines, 2, delay_line)
    no_line_at(lines, 3)
    ticks = ticks_of(parts)
    return Plan(*ticks), made_by(steps), delay


def packet_line(words):
    """The Packet of a line."""
    tick, parts = packet_parts(words, 0)
    return Packet(tick, parts)


def no_packet_line(words):
    """What a line tells that begins with `-`, where no packets are written: nothing."""
    ended(words, 1)


def read_packets(text):
    """The tuple of the Packets with this text."""
    lines = lines_of(text)
    if lines[0].split(" ")[0] == "-":
        line_told(lines, 0, no_packet_line)
        no_line_at(lines, 1)
        return ()
    return tuple([line_told(lines, number, packet_line) for number in range(len(lines))])


def is_in_time_line(words):
    """Whether the first line of a verdict tells that the plan is in time."""
    if words[0] == "in":
        fixed_at(words, 1, "time")
        ended(words, 2)
        return True
    fixed_at(words, 0, "late")
    ended(words, 1)
    return False


def standing_line(words):
    """The Standing of a line."""
    phase = number_at(words, 0, 0, MOST_WRITTEN)
    place = number_at(words, 1, 0, MOST_WRITTEN)
    rows = space_rows(words, 2)
    return Standing(phase, place, Space(*rows))


def losses_line(words):
    """The losses of a late verdict."""
    losses = losses_at(words, 0)
    ended(words, 1)
    return losses


def rows_line(words, many):
    """The rows of the second stream, of so many ticks, of a late verdict."""
    rows = [number_at(words, at, 0, 1) for at in range(many)]
    ended(words, many)
    return tuple(rows)


def read_verdict(text):
    """The InTime or Late with this text."""
    lines = lines_of(text)
    if line_told(lines, 0, is_in_time_line):
        return InTime(tuple([line_told(lines, number, standing_line) for number in range(1, len(lines))]))
    losses = line_told(lines, 1, losses_line)
    rows = line_told(lines, 2, lambda words: rows_line(words, len(losses)))
    no_line_at(lines, 3)
    return Late(losses, rows)
