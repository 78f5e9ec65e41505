"""Ratios over one common bottom."""

from math import lcm


def common_bottom(ratios):
    """The least whole number that all bottoms divide."""
    bottom = 1
    for ratio in ratios:
        bottom = lcm(bottom, ratio.bottom)
    return bottom


def over_one_bottom(ratios):
    """The tops that the Ratios have over their common bottom, and that bottom."""
    bottom = common_bottom(ratios)
    return [ratio.top * (bottom // ratio.bottom) for ratio in ratios], bottom
