"""The errors of the package."""


class RungError(ValueError):
    """What is refused."""


class BadPaper(RungError):
    """A paper that does not hold: its word, or "form"."""

    def __init__(self, part):
        self.part = part


class NoShare(RungError):
    """A row that is of no share: the paper that tells so."""

    def __init__(self, paper):
        self.paper = paper


class BadTerm(RungError):
    """What is no term: the path to what is wrong in it."""

    def __init__(self, path):
        self.path = path


class BadText(RungError):
    """A text that cannot be read: the line and the word."""

    def __init__(self, line, word):
        self.line = line
        self.word = word


class BadBounds(RungError):
    """A pair of bounds, the first one being greater."""

    def __init__(self, given):
        self.given = given


class BadBundle(RungError):
    """What is no bundle."""

    def __init__(self, given):
        self.given = given


class BadChain(RungError):
    """A pair that is no chain."""

    def __init__(self, given):
        self.given = given


class BadCumulants(RungError):
    """What is no tuple of cumulants."""

    def __init__(self, given):
        self.given = given


class BadFraction(RungError):
    """What is no fraction, or none that is let there."""

    def __init__(self, given):
        self.given = given


class BadFractions(RungError):
    """What is no tuple of fractions, or too long a one."""

    def __init__(self, given):
        self.given = given


class BadHeard(RungError):
    """A fraction that does not fit behind a book's row."""

    def __init__(self, given):
        self.given = given


class BadKind(RungError):
    """What is no kind."""

    def __init__(self, given):
        self.given = given


class BadLadder(RungError):
    """What is no ladder, or none that is let there."""

    def __init__(self, given):
        self.given = given


class BadLoad(RungError):
    """What is no load."""

    def __init__(self, given):
        self.given = given


class BadMarks(RungError):
    """What are no marks of a way."""

    def __init__(self, given):
        self.given = given


class BadNumber(RungError):
    """What is no number, or none that is let there."""

    def __init__(self, given):
        self.given = given


class BadOpen(RungError):
    """A row without an open ladder of as many levels as steps."""

    def __init__(self, given):
        self.given = given


class BadOrder(RungError):
    """What is no order."""

    def __init__(self, given):
        self.given = given


class BadPart(RungError):
    """What is no part of a string."""

    def __init__(self, given):
        self.given = given


class BadParting(RungError):
    """What is no parting, or none that is let there."""

    def __init__(self, given):
        self.given = given


class BadPlaces(RungError):
    """What are no places."""

    def __init__(self, given):
        self.given = given


class BadPoints(RungError):
    """What are no points."""

    def __init__(self, given):
        self.given = given


class BadPoly(RungError):
    """What is no polynomial, or none that is let there."""

    def __init__(self, given):
        self.given = given


class BadProfile(RungError):
    """What is no profile."""

    def __init__(self, given):
        self.given = given


class BadRates(RungError):
    """What are no rates."""

    def __init__(self, given):
        self.given = given


class BadRises(RungError):
    """What are no rises."""

    def __init__(self, given):
        self.given = given


class BadRow(RungError):
    """What is no row, or none that is let there."""

    def __init__(self, given):
        self.given = given


class BadRule(RungError):
    """What is no rule."""

    def __init__(self, given):
        self.given = given


class BadRung(RungError):
    """What is no rung of the rates."""

    def __init__(self, given):
        self.given = given


class BadShare(RungError):
    """What is no share, or none that is let there."""

    def __init__(self, given):
        self.given = given


class BadSide(RungError):
    """What is no side."""

    def __init__(self, given):
        self.given = given


class BadString(RungError):
    """What is no string."""

    def __init__(self, given):
        self.given = given


class BadTable(RungError):
    """What is no table, or none that is let there."""

    def __init__(self, given):
        self.given = given


class BadWay(RungError):
    """What is no way."""

    def __init__(self, given):
        self.given = given


class TooMany(OverflowError):
    """More than there may be: the most."""

    def __init__(self, most):
        self.most = most


class Missing(KeyError):
    """What is not there."""

    def __init__(self, given):
        self.given = given


class NothingLeft(RuntimeError):
    """More taken back than was heard."""

    def __init__(self, many):
        self.many = many
