"""Partings of the numbers below a number into blocks, of three kinds."""

from math import comb, factorial

from rungshare.errors import BadKind, BadParting
from rungshare.ratios import is_between, need_between

KINDS = ("all", "free", "stretch")
MOST_NUMBERS = 7


def need_kind(kind):
    if not isinstance(kind, str) or kind not in KINDS:
        raise BadKind(kind)
    return kind


def is_block(thing):
    if not isinstance(thing, tuple) or len(thing) == 0:
        return False
    if not all([is_between(number, 0, MOST_NUMBERS - 1) for number in thing]):
        return False
    return all([one < other for one, other in zip(thing, thing[1:])])


def is_parting(thing):
    if not isinstance(thing, tuple) or not all([is_block(block) for block in thing]):
        return False
    if any([one[0] >= other[0] for one, other in zip(thing, thing[1:])]):
        return False
    numbers = sorted([number for block in thing for number in block])
    return numbers == list(range(len(numbers)))


def need_parting(parting):
    if not is_parting(parting):
        raise BadParting(parting)
    return parting


def is_parted(parting, low, high):
    """Whether some block has both a number from low to less than high, and one that is not so."""
    for block in parting:
        within = len([number for number in block if low <= number and number < high])
        if 0 < within and within < len(block):
            return True
    return False


def does_cross(parting):
    """Whether some block stands both between two neighbours of another one and beside them."""
    gaps = [(low + 1, high) for block in parting for low, high in zip(block, block[1:])]
    return any([is_parted(parting, low, high) for low, high in gaps])


def is_stretched(parting):
    """Whether each block has neighbouring numbers alone."""
    return all([block[-1] - block[0] + 1 == len(block) for block in parting])


def has_kind(kind, parting):
    """Whether a parting that is known to be one is of that kind."""
    if kind == "free":
        return not does_cross(parting)
    return kind == "all" or is_stretched(parting)


def with_next(parting, number):
    """All partings with one number more, which is greater than all."""
    found = [parting + ((number,),)]
    for k, block in enumerate(parting):
        found.append(parting[:k] + (block + (number,),) + parting[k + 1:])
    return found


def partings_of(kind, many):
    """All partings of that kind."""
    found = [()]
    for number in range(many):
        longer = [parting for shorter in found for parting in with_next(shorter, number)]
        # What is not of a kind is of it with no number more, either.
        found = [parting for parting in longer if has_kind(kind, parting)]
    return tuple(sorted(found))


def all_partings(kind, many):
    need_kind(kind)
    return partings_of(kind, need_between(many, 0, MOST_NUMBERS))


def is_of_kind(kind, parting):
    need_kind(kind)
    return has_kind(kind, need_parting(parting))


def turned(parting):
    """The turned one of a parting that is known to be one."""
    blocks = []
    for number in range(sum([len(block) for block in parting])):
        beside = [k for k, block in enumerate(blocks) if not is_parted(parting, block[0] + 1, number + 1)]
        if beside:
            blocks[beside[0]] += (number,)
        else:
            blocks.append((number,))
    return tuple(blocks)


def turned_parting(parting):
    return turned(need_parting(parting))


def signed(whole, many):
    """An integer, of the other sign if so many is even."""
    return whole if many & 1 else -whole


def sign_by(kind, parting):
    """The whole number of a parting that is known to be of that kind."""
    if kind == "free":
        whole = 1
        for block in turned(parting):
            many = len(block)
            whole *= signed(comb(2 * many - 2, many - 1) // many, many)
        return whole
    many = len(parting)
    if many == 0:
        return 1
    return signed(factorial(many - 1) if kind == "all" else 1, many)


def parting_sign(kind, parting):
    need_kind(kind)
    if not has_kind(kind, need_parting(parting)):
        raise BadParting(parting)
    return sign_by(kind, parting)
