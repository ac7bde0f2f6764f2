"""The errors of this package, all of them directly below RepairError."""


class RepairError(ValueError):
    """The base of all errors of this package."""


class BadSpace(RepairError):
    """A part of a space, or of what a space is asked, is wrong."""

    def __init__(self, part):
        self.part = part


class BadTick(RepairError):
    """A part of a tick is wrong: the index of a sum, or a word."""

    def __init__(self, part):
        self.part = part


class BadPlan(RepairError):
    """A part of a plan, or what should be a plan, is wrong."""

    def __init__(self, part):
        self.part = part


class BadRule(RepairError):
    """A part of a rule, or what should be a rule, is wrong."""

    def __init__(self, part):
        self.part = part


class BadLosses(RepairError):
    """What should be losses is none."""

    def __init__(self, value):
        self.value = value


class BadDelay(RepairError):
    """What should be a delay is none."""

    def __init__(self, value):
        self.value = value


class BadCount(RepairError):
    """What should be a number within some bounds is none."""

    def __init__(self, value):
        self.value = value


class BadStream(RepairError):
    """A part of a stream is wrong."""

    def __init__(self, part):
        self.part = part


class BadPacket(RepairError):
    """A part of a packet is wrong."""

    def __init__(self, part):
        self.part = part


class BadBench(RepairError):
    """What is put on a bench is wrong."""

    def __init__(self, part):
        self.part = part


class BadText(RepairError):
    """A word of a text cannot stand where it stands, or is missing there."""

    def __init__(self, line, word):
        self.line = line
        self.word = word


class BadCommand(RepairError):
    """A word of a command cannot stand where it stands, or is missing there."""

    def __init__(self, word):
        self.word = word


class BadName(RepairError):
    """What should be a name is none."""

    def __init__(self, value):
        self.value = value


class NoName(RepairError):
    """A name stands for nothing."""

    def __init__(self, name):
        self.name = name


class NoPhase(RepairError):
    """What should be the index of a phase is none."""

    def __init__(self, at):
        self.at = at


class Nothing(RepairError):
    """There is nothing to take back."""

    def __init__(self):
        pass


class TooMany(RepairError):
    """There are more of something than there may be."""

    def __init__(self, what, most):
        self.what = what
        self.most = most
