"""The base class of the papers that answer yes or no."""


class Verdict:
    """A paper that answers yes or no by its truth; each kind of answer is a class below this one."""
