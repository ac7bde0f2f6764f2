"""Answers to what kind of value something is; any value may be asked about."""

MOST_AGE = 8
MOST_DELAY = 8
MOST_NAME = 8
LETTERS = "abcdefghijklmnopqrstuvwxyz"


def is_integer(value):
    """Whether this is an int that is not a bool."""
    return isinstance(value, int) and not isinstance(value, bool)


def is_within(value, least, most):
    """Whether this is an integer from least to most."""
    return is_integer(value) and least <= value <= most


def is_natural(value):
    """Whether this is an integer from 0 on."""
    return is_integer(value) and value >= 0


def is_age(value):
    """Whether this is an integer from 0 to 8, the age of a row in a sum."""
    return is_within(value, 0, MOST_AGE)


def is_delay(value):
    """Whether this is an integer from 0 to 8, a delay."""
    return is_within(value, 0, MOST_DELAY)


def is_losses(value):
    """Whether this is a string of `.` and `x` alone, perhaps empty."""
    return isinstance(value, str) and value.strip(".x") == ""


def is_name(value):
    """Whether this is a string of 1 to 8 letters from a to z."""
    return isinstance(value, str) and 1 <= len(value) <= MOST_NAME and value.strip(LETTERS) == ""


def is_ascending(values):
    """Whether each of these, which compare with each other, is greater than the one ahead of it."""
    return all([values[at - 1] < values[at] for at in range(1, len(values))])
