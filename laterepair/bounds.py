"""Bounds that several files share."""

MOST_BITS = 65535
MOST_SUMS = 6
MOST_PHASES = 6
MOST_PLACES = 40
MOST_PAIRS = 40
MOST_OPEN = 20

# For each word that begins the text of a rule with numbers: the name, the least and the greatest value of each.
RULE_BOUNDS = {
    "burst": (("most", 1, 8), ("gap", 1, 12)),
    "window": (("most", 0, 6), ("width", 1, 6)),
    "total": (("most", 0, 12),),
}
