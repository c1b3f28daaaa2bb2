"""Lines of words, read from left to right."""

from rungshare.errors import BadText

MOST_FIGURES = 31


def is_unsigned(word):
    """Whether a word is an integer without "-", by its form."""
    if not word.isascii() or not word.isdigit() or len(word) > MOST_FIGURES:
        return False
    return word == "0" or word[0] != "0"


def is_signed(word):
    """Whether a word is an integer, by its form."""
    if word.startswith("-"):
        return word != "-0" and is_unsigned(word[1:])
    return is_unsigned(word)


def pair_by(word):
    """The two integers of a word for a fraction, in least terms or not; None of another word."""
    top, slash, bottom = word.partition("/")
    if not is_signed(top):
        return None
    if slash == "":
        return (int(top), 1)
    if not is_unsigned(bottom) or bottom == "0":
        return None
    return (int(top), int(bottom))


def lines_of(text):
    if not isinstance(text, str):
        raise BadText(None, None)
    return text.split("\n")


class Line:
    """The words of a line that are not yet read."""

    def __init__(self, number, text):
        self.number = number
        self.words = text.split(" ")
        self.place = 0
        self.terms = 0

    def is_done(self):
        return self.place == len(self.words)

    def refuse(self):
        """Refuses the next word, or its lack."""
        raise BadText(self.number, self.place)

    def ahead(self):
        """The next word, which stays the next one until it is passed."""
        if self.is_done():
            self.refuse()
        return self.words[self.place]

    def take_one_of(self, words):
        word = self.ahead()
        if word not in words:
            self.refuse()
        self.place += 1
        return word

    def take_fraction(self):
        pair = pair_by(self.ahead())
        if pair is None:
            self.refuse()
        self.place += 1
        return pair

    def take_whole(self):
        word = self.ahead()
        if not is_unsigned(word):
            self.refuse()
        self.place += 1
        return int(word)

    def end(self):
        """Refuses a word too many."""
        if not self.is_done():
            self.refuse()
