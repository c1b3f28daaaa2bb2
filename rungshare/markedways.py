"""Partings as ways with marks, and back."""

from rungshare.errors import BadMarks, BadWay
from rungshare.partings import MOST_NUMBERS, need_parting
from rungshare.ratios import is_between
from rungshare.ways import heights_by, is_way

# The mark of a number that goes on with no block.
NONE = -1


def step_of(block, number):
    """The step at a number of a block."""
    return (1 if number == block[0] else 0) - (1 if number == block[-1] else 0)


def mark_of(parting, block, number):
    """The mark of a number of a block."""
    if number == block[0]:
        return NONE
    return len([other for other in parting if block[0] < other[0] and other[0] < number and number < other[-1]])


def marked_way(parting):
    pairs = sorted([(number, block) for block in need_parting(parting) for number in block])
    way = tuple([step_of(block, number) for number, block in pairs])
    return (way, tuple([mark_of(parting, block, number) for number, block in pairs]))


def is_mark(step, height, thing):
    """Whether it is a mark of a step from a height."""
    if step == 1:
        return is_between(thing, NONE, NONE)
    return is_between(thing, NONE if step == 0 else 0, height - 1)


def are_marks(way, thing):
    if not isinstance(thing, tuple) or len(thing) != len(way):
        return False
    return all([is_mark(step, height, mark) for step, height, mark in zip(way, heights_by(0, way), thing)])


def parted(way, marks):
    """The parting of a way and marks that are known to be such."""
    blocks = []
    ahead = []
    for number, step in enumerate(way):
        if marks[number] == NONE:
            blocks.append((number,))
            if step == 1:
                ahead.append(len(blocks) - 1)
        else:
            place = ahead[-1 - marks[number]]
            blocks[place] += (number,)
            if step == -1:
                ahead.remove(place)
    return tuple(blocks)


def parting_of(way, marks):
    if not is_way(0, way) or sum(way) != 0 or len(way) > MOST_NUMBERS:
        raise BadWay(way)
    if not are_marks(way, marks):
        raise BadMarks(marks)
    return parted(way, marks)
