"""Texts of settings, packets and verdicts."""

from laterepair.arguments import check_setting
from laterepair.bounds import MOST_WRITTEN
from laterepair.checks import is_losses, is_natural, is_within
from laterepair.errors import BadStream
from laterepair.judged import InTime, Late
from laterepair.spaces import Space
from laterepair.standings import Standing
from laterepair.streams import Packet, is_parts


def setting_text(plan, rule, delay):
    """The text of a plan, a rule and a delay."""
    check_setting(plan, rule, delay)
    return "\n".join([f"plan {plan}", f"rule {rule}", f"delay {delay}"])


def is_written_packet(value):
    """Whether this is a Packet with an integer from 0 on and a tuple of integers from 0 on."""
    return isinstance(value, Packet) and is_natural(value.tick) and is_parts(value.parts)


def packets_text(packets):
    """The text of a list or tuple of Packets."""
    if not isinstance(packets, (list, tuple)) or not all([is_written_packet(packet) for packet in packets]):
        raise BadStream("packets")
    if not packets:
        return "-"
    return "\n".join([str(packet) for packet in packets])


def is_written_standing(value):
    """Whether this is a Standing with integers from 0 to 1,000 as phase and place, and a Space."""
    if not isinstance(value, Standing) or not isinstance(value.space, Space):
        return False
    return is_within(value.phase, 0, MOST_WRITTEN) and is_within(value.place, 0, MOST_WRITTEN)


def is_written_in_time(value):
    """Whether this is an InTime whose table is a tuple of such Standings."""
    if not isinstance(value, InTime) or not isinstance(value.table, tuple):
        return False
    return all([is_written_standing(one) for one in value.table])


def is_written_late(value):
    """Whether this is a Late with losses of at least one letter and a tuple of as many integers 0 and 1."""
    if not isinstance(value, Late) or not is_losses(value.losses) or value.losses == "":
        return False
    if not isinstance(value.other, tuple) or len(value.other) != len(value.losses):
        return False
    return all([is_within(row, 0, 1) for row in value.other])


def verdict_text(verdict):
    """The text of a verdict of judge."""
    if is_written_in_time(verdict):
        return "\n".join(["in time", *[f"{one.phase} {one.place} {one.space}" for one in verdict.table]])
    if is_written_late(verdict):
        return "\n".join(["late", verdict.losses, " ".join([str(row) for row in verdict.other])])
    raise BadStream("verdict")
