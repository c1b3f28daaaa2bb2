"""The sides of one ladder: each told by every other one."""

from rungshare.bare import ONE, divided, poly_at, slope
from rungshare.chains import chain_ladder, is_chain
from rungshare.errors import BadNumber, BadSide
from rungshare.ladders import LAST_MOMENT, has_end, in_turn, is_ladder, row_to
from rungshare.nears import near_fractions_of
from rungshare.rates import are_rates
from rungshare.ratios import is_positive
from rungshare.rises import are_rises, led_ladder, rises_told
from rungshare.rows import is_row, is_share, moment_of
from rungshare.rowshares import ladder_or_none
from rungshare.signs import rational_roots
from rungshare.tables import is_table, led_by_table, table_of
from rungshare.walks import ladder_of_rates, paper_on_walk

# How many things each side has, its word with them.
LENGTHS = {"row": 2, "share": 2, "ladder": 2, "chain": 3, "rises": 3, "table": 3, "walk": 2}
MOST_PAIRS = 5
MOST_ENDED = 4


def ladder_of_one(word, thing):
    """The ladder of a side with one thing behind its word, None of what is none."""
    if word == "row":
        return ladder_or_none(thing) if is_row(thing) else None
    if word == "share":
        if not is_share(thing) or len(thing) > MOST_PAIRS:
            return None
        return ladder_or_none([moment_of(thing, number) for number in range(2 * len(thing) + 1)])
    if word == "ladder":
        return thing if is_ladder(thing) else None
    return ladder_of_rates(thing) if are_rates(thing) else None


def ladder_of_two(word, first, second):
    """The ladder of a side with two things behind its word, None of what is none."""
    if word == "chain":
        return chain_ladder(first, second) if is_chain(first, second) else None
    if not is_positive(first):
        return None
    if word == "rises":
        return led_ladder(first, second) if are_rises(second) else None
    return led_by_table(first, second) if is_table(second) else None


def ladder_within(thing):
    """The ladder of a side, None of what is none."""
    if not isinstance(thing, tuple) or len(thing) == 0 or not isinstance(thing[0], str):
        return None
    if len(thing) != LENGTHS.get(thing[0], 0):
        return None
    if len(thing) == 2:
        return ladder_of_one(thing[0], thing[1])
    return ladder_of_two(thing[0], thing[1], thing[2])


def ladder_by(side):
    ladder = ladder_within(side)
    if ladder is None:
        raise BadSide(side)
    return ladder


def need_side(thing):
    ladder_by(thing)
    return thing


def row_from(ladder):
    """The longest row of a ladder that a side can have, None of one with five steps."""
    total, levels, steps = ladder
    if not has_end(ladder):
        return row_to(ladder, len(levels) + len(steps))
    return row_to(ladder, LAST_MOMENT) if len(steps) <= MOST_ENDED else None


def share_from(ladder):
    """The share of an ended ladder, None if a number is no fraction."""
    top, bottom = near_fractions_of(ladder)[-1]
    numbers = rational_roots(bottom)
    if len(numbers) < len(ladder[1]):
        return None
    steep = slope(bottom)
    return tuple([(number, divided(poly_at(top, number), poly_at(steep, number))) for number in numbers])


def rises_from(ladder):
    """The rises that lead to a ladder, as far as a side's row tells them, or None."""
    row = row_from(ladder)
    if row is None:
        return None
    paper = rises_told(row)
    return paper[1] if paper[0] == "rises" and led_ladder(ladder[0], paper[1]) == ladder else None


def rates_from(ladder):
    """The rates of an ended ladder, or None."""
    if ladder[0] != ONE:
        return None
    paper = paper_on_walk(ladder)
    return paper[1] if paper[0] == "walk" else None


def thing_from(ladder, word):
    """What a side that is no ladder and no chain has last, or None."""
    if word == "row":
        return row_from(ladder)
    if word == "rises":
        return rises_from(ladder)
    if not has_end(ladder):
        return None
    if word == "share":
        return share_from(ladder)
    return table_of(ladder) if word == "table" else rates_from(ladder)


def chain_from(ladder):
    """The side of an ended ladder as a chain, or None."""
    if not has_end(ladder) or len(ladder[1]) > MOST_ENDED:
        return None
    return ("chain",) + near_fractions_of(ladder)[-1]


def side_from(ladder, word):
    """The side of a ladder with this word, or None."""
    if word == "ladder":
        return (word, ladder)
    if word == "chain":
        return chain_from(ladder)
    thing = thing_from(ladder, word)
    if thing is None:
        return None
    return (word, ladder[0], thing) if LENGTHS[word] == 3 else (word, thing)


def turned_to(side, word):
    ladder = ladder_by(side)
    if not isinstance(word, str) or word not in LENGTHS:
        raise BadNumber(word)
    return side_from(ladder, word)


def are_one(side, other):
    one = ladder_by(side)
    two = ladder_by(other)
    # Where one ends, it has a step nought, and a longer one has not; so two ended ones are compared as wholes.
    return one[0] == two[0] and all([here == there for here, there in zip(in_turn(one), in_turn(two))])
