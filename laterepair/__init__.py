"""Laterepair: repair sums in live streams, judged for all losses that a rule lets."""
