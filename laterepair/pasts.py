"""Pasts: what something that changes holds, and how it comes back to what it held."""

from laterepair.errors import Nothing


class Past:
    """What is held now, and the past ahead of the deed that led to it; it never changes."""

    def __init__(self, held, word=None, before=None):
        self.held = held
        self.word = word
        self.before = before
        self.depth = 0 if before is None else before.depth + 1


def taken_back(past):
    """The past ahead of the last deed of this one."""
    if past.before is None:
        raise Nothing()
    return past.before


class Trial:
    """A block behind which its owner has the past that it had when the block began."""

    def __init__(self, owner):
        self.owner = owner
        self.kept = None

    def __enter__(self):
        # One trial can be entered again inside of its own block, so what it keeps has a past, too.
        self.kept = Past(self.owner._past, None, self.kept)
        return self.owner

    def __exit__(self, kind, value, trace):
        owner = self.owner
        owner._past = self.kept.held
        self.kept = self.kept.before
