"""Pairs of numbers and weights, gathered to shares."""

from math import lcm

from rungshare.bare import NOUGHT, added, timed


def ascending(numbers):
    """Unlike fractions in the order of their worths."""
    whole = 1
    for number in numbers:
        whole = lcm(whole, number[1])
    pairs = sorted([(number[0] * (whole // number[1]), number) for number in numbers])
    return [number for _, number in pairs]


def gathered(pairs):
    """The pairs in the order of their numbers, those of like numbers one: a share, if they are not too many."""
    weights = {}
    for number, weight in pairs:
        weights[number] = added(weights.get(number, NOUGHT), weight)
    return tuple([(number, weights[number]) for number in ascending(list(weights))])


def all_sums(share, second):
    """For each pair of both shares the sum of the numbers, with the product of the weights."""
    return [(added(one, other), timed(weight, load)) for one, weight in share for other, load in second]
