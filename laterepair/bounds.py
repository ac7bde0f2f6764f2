"""Bounds that several files share."""

MOST_BITS = 65535
MOST_SUMS = 6
MOST_PHASES = 6
MOST_PLACES = 40
MOST_PAIRS = 40
MOST_OPEN = 20
MOST_BURST = 8
MOST_GAP = 12
MOST_WIDTH = 6
MOST_TOTAL = 12
MOST_LIMIT = 5000
MOST_TABLE = 5000
MOST_JUDGED_TICKS = 2000
MOST_SHOWN_TICKS = 5000
MOST_PLAYED_TICKS = 400

# The greatest phase and place that are written in the text of a verdict.
MOST_WRITTEN = 1000

# How many sums of rows with ages from 0 to 8 there are.
MANY_SUMS = 512

# For each word that begins the text of a rule with numbers: the name, the least and the greatest value of each.
RULE_BOUNDS = {
    "burst": (("most", 1, 8), ("gap", 1, 12)),
    "window": (("most", 0, 6), ("width", 1, 6)),
    "total": (("most", 0, 12),),
}
