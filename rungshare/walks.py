"""Walks on rungs: which ladders are those of rates."""

from rungshare.bare import NOUGHT, ONE, divided, lessened
from rungshare.errors import BadLadder, BadPaper
from rungshare.ladders import has_end, is_ladder
from rungshare.rates import are_rates, need_rates, rates_table
from rungshare.ratios import is_between
from rungshare.rowshares import need_form
from rungshare.tables import led_by_table

FORMS = (("walk", 2), ("stay", 2), ("up", 2))


def ladder_of_rates(rates):
    """The ladder of rates that are known to be such."""
    return led_by_table(ONE, rates_table(rates))


def walk_ladder(rates):
    return ladder_of_rates(need_rates(rates))


def need_walked(ladder):
    """An ended ladder with the total 1."""
    if not is_ladder(ladder) or not has_end(ladder) or ladder[0] != ONE:
        raise BadLadder(ladder)
    return ladder


def rungs_by(ladder):
    """The rungs from 0 on, to the last one or to the first whose up is not above nought, stays perhaps below it."""
    total, levels, steps = ladder
    rungs = []
    down = NOUGHT
    for level, step in zip(levels, steps):
        up = lessened(lessened(ONE, level), down)
        rungs.append((up, level, down))
        if up[0] <= 0:
            break
        down = divided(step, up)
    return tuple(rungs)


def first_below(ladder):
    """The number of the first level below nought, None if there is none."""
    below = [number for number, level in enumerate(ladder[1]) if level[0] < 0]
    return below[0] if below else None


def failed_up(ladder):
    """The number of the rung whose up fails, None if none does."""
    rungs = rungs_by(ladder)
    up = rungs[-1][0]
    if up[0] < 0 or (up == NOUGHT and len(rungs) < len(ladder[1])):
        return len(rungs) - 1
    return None


def paper_on_walk(ladder):
    """The paper on a ladder that is known to be as wanted."""
    number = first_below(ladder)
    if number is not None:
        return ("stay", number)
    number = failed_up(ladder)
    if number is not None:
        return ("up", number)
    return ("walk", rungs_by(ladder))


def walk_paper(ladder):
    return paper_on_walk(need_walked(ladder))


def rates_of(ladder):
    paper = walk_paper(ladder)
    return paper[1] if paper[0] == "walk" else None


def does_hold(ladder, paper):
    """Whether a paper that has the form of one of a walk holds."""
    if paper[0] == "walk":
        return are_rates(paper[1]) and ladder_of_rates(paper[1]) == ladder
    if not is_between(paper[1], 0, len(ladder[1]) - 1):
        return False
    if paper[0] == "stay":
        return ladder[1][paper[1]][0] < 0
    return paper[1] == failed_up(ladder)


def check_walk(ladder, paper):
    need_walked(ladder)
    word = need_form(paper, FORMS)
    if not does_hold(ladder, paper):
        raise BadPaper(word)
    return word
