import random
import re
import unittest

from rungshare.errors import BadFraction, BadRow, BadTerm
from rungshare.terms import need_term
from rungshare.texts import fraction_text, read_row, read_term, row_text, term_text
from samples import ANY, BIG, Case, frac, fracs, rows_of_any_kind, some_fraction, worth, wrong_fractions, wrong_rows
from test_terms import HALF, ONE, comb_of, is_small, line, nested, some_term, words_in

TERM_WORDS = {"pairs": "P", "moved": "FT", "scaled": "FT", "heavier": "FT", "mixed": "TT", "added": "TT",
              "squared": "T"}
INTEGER = r"(0|-?[1-9][0-9]{0,30})"
FRACTION = re.compile(INTEGER + r"(/[1-9][0-9]{0,30})?")
NINES = "9" * 31
GOOD_WORDS = ["0", "7", "-7", "1/2", "-1/2", "3/1", "0/5", "2/4", NINES, "-" + NINES, NINES + "/" + NINES,
              "-1/" + NINES]
BAD_WORDS = ["", "+1", "01", "-0", "00", "-01", "1/0", "1/-2", "1/02", "1/", "/2", "-/2", "1/+2", "1//2", "1/2/3", "-",
             "--1", "1.5",
             "x", "1x", "x1", "1_0", "1e3", "1" * 32, "-" + "1" * 32, "1/" + "1" * 32, "1" * 32 + "/2", "-0/5", "pairs",
             "a/b", "1\t",
             "\t1", "(1,", "2)", "0x1", "1,", "/", "0/0", "01/2", "-1/-2", "~", "!"]


def text_of(pair):
    return str(worth(pair))


def is_fraction_word(word):
    return FRACTION.fullmatch(word) is not None


def pair_of(word):
    top, _, bottom = word.partition("/")
    return (int(top), int(bottom) if bottom else 1)


def model_read(text):
    """What a text of a term is by its form, or where it is not: a list of what is still wanted, the next one last."""
    words, wanted, count, at = text.split("\n")[0].split(" "), ["T"], 0, 0
    while wanted:
        want = wanted.pop()
        word = words[at] if at < len(words) else None
        if want == "T":
            count += 1
            if word not in TERM_WORDS or count > 20:
                return at
            wanted += TERM_WORDS[word][::-1]
        elif want == "P":
            if word not in ("1", "2", "3", "4", "5", "6"):
                return at
            wanted += "F" * (2 * int(word))
        elif word is None or not is_fraction_word(word):
            return at
        at += 1
    return None if at == len(words) else at


class Texts(Case):

    def test_known(self):
        self.same(fraction_text(frac(3)), "3")
        self.same(fraction_text(frac(-3, 7)), "-3/7")
        self.same(fraction_text(frac(0)), "0")
        self.same(row_text(fracs(1, 0, (-1, 2))), "1 0 -1/2")
        self.same(row_text(fracs(5)), "5")
        self.same(read_row("1 0 -1/2"), fracs(1, 0, (-1, 2)))
        self.same(term_text(HALF), "pairs 2 -1 1/2 1 1/2")
        self.same(term_text(("moved", HALF, frac(-1, 3))), "moved -1/3 pairs 2 -1 1/2 1 1/2")
        self.same(term_text(("mixed", ONE, ("squared", ONE))), "mixed pairs 1 1 2 squared pairs 1 1 2")
        self.same(read_term("mixed pairs 1 1 2 squared pairs 1 1 2"), ("mixed", ONE, ("squared", ONE)))
        self.same(read_term("scaled -2 heavier 3 pairs 1 1 2"), ("scaled", ("heavier", ONE, frac(3)), frac(-2)))
        self.same(read_row("3/1 0"), fracs(3, 0))

    def test_fractions(self):
        r = random.Random(481)
        for _ in range(50):
            one = some_fraction(r, 10 ** r.randint(1, 40))
            self.same(self.twice(fraction_text, one), text_of(one))
        self.same(fraction_text(frac(-BIG, 17)), "-" + str(BIG) + "/17")
        self.same(fraction_text((10 ** 3999, 1)), "1" + "0" * 3999)
        self.each_refused(fraction_text, (frac(1),), [(BadFraction, wrong_fractions())])

    def test_rows(self):
        for row in rows_of_any_kind(482, 30):
            text = self.twice(row_text, row)
            self.same(text, " ".join([text_of(moment) for moment in row]))
            if all([len(part) < 32 for part in re.split("[ /-]", text)]):
                self.same(self.twice(read_row, text), row)
        self.each_refused(row_text, (fracs(1, 2),), [(BadRow, wrong_rows())])

    def test_terms(self):
        r = random.Random(483)
        seen = {}
        for _ in range(200):
            term = some_term(r, r.randint(1, 5))
            if words_in(term) > 20 or not is_small(term):
                with self.assertRaises(BadTerm) as caught:
                    need_term(term)
                self.refused(BadTerm, caught.exception.path, term_text, term)
                continue
            text = self.twice(term_text, term)
            self.assertIs(model_read(text), None)
            self.same(self.twice(read_term, text), term)
            seen[term[0]] = True
        self.assertEqual(len(seen), 7)
        for thing in ANY + [("pairs",), ("moved", ONE, (2, 2)), ("squared", HALF, 1)]:
            self.refused(BadTerm, (), term_text, thing)
        self.refused(BadTerm, (2,), term_text, ("mixed", ONE, None))

    def test_no_string(self):
        for thing in [one for one in ANY if not isinstance(one, str)] + [["1"], ("1 0",), b"1 0", {"1": 1}]:
            self.refused_text(None, None, read_row, thing)
            self.refused_text(None, None, read_term, thing)

    def test_words_of_rows(self):
        for word in GOOD_WORDS:
            self.assertTrue(is_fraction_word(word))
            row = ((1, 1), pair_of(word))
            if word in ("2/4", "0/5", NINES + "/" + NINES):
                self.same(self.refused(BadRow, row, read_row, "1 " + word), row)
            else:
                self.same(read_row("1 " + word), row)
        for word in BAD_WORDS:
            self.assertFalse(is_fraction_word(word))
            for many in range(9):
                text = " ".join(["1"] * many + [word] + ["1"] * (8 - many))
                if " " not in word:
                    self.refused_text(0, many, read_row, text)
                    self.refused_text(0, many, read_row, text + "\n1")
            self.refused_text(0, 0, read_row, word)

    def test_lines_of_rows(self):
        self.refused_text(0, 0, read_row, "")
        self.refused_text(0, 0, read_row, "\n")
        self.refused_text(1, 0, read_row, "1\n")
        self.refused_text(1, 0, read_row, "1\n1")
        self.refused_text(1, 0, read_row, "1\n\n\n")
        self.refused_text(0, 1, read_row, "1 x\n1")
        self.refused_text(0, 1, read_row, "1 ")
        self.refused_text(0, 0, read_row, " 1")
        self.refused_text(0, 1, read_row, "1  2")
        self.refused_text(0, 2, read_row, "1 2 ")
        self.refused_text(0, 2, read_row, "1 2 \n")
        self.refused_text(0, 9, read_row, " ".join(["1"] * 10))
        self.refused_text(0, 9, read_row, " ".join(["1"] * 9 + ["x"]))
        self.refused_text(0, 9, read_row, " ".join(["1"] * 9 + [""]))
        self.refused_text(0, 9, read_row, " ".join(["1"] * 12) + "\n")
        self.refused_text(0, 3, read_row, " ".join(["1"] * 3 + ["x"] * 9))
        self.same(read_row(" ".join(["1"] * 9)), fracs(*[1] * 9))
        self.refused_text(0, 0, read_row, "pairs 1 1 2")

    def test_what_is_no_row(self):
        for text, row in [("0", ((0, 1),)), ("-1 2", ((-1, 1), (2, 1))), ("1 2/4", ((1, 1), (2, 4))),
                          ("-1/3", ((-1, 3),)),
                          ("2/4 1", ((2, 4), (1, 1))), ("1 0/2", ((1, 1), (0, 2)))]:
            self.same(self.refused(BadRow, row, read_row, text), row)
        # The form of all words comes first.
        self.refused_text(0, 1, read_row, "0 x")
        self.refused_text(1, 0, read_row, "0\n")

    def test_what_is_no_term(self):
        for text, path in [("pairs 1 1 0", ()), ("pairs 1 1 -1", ()), ("pairs 2 1 1 1 1", ()), ("pairs 2 2 1 1 1", ()),
                           ("pairs 1 2/4 1", ()),
                           ("scaled 0 pairs 1 1 1", ()), ("heavier 0 pairs 1 1 1", ()), ("heavier -1 pairs 1 1 1", ()),
                           ("moved 2/4 pairs 1 1 1", ()), ("squared pairs 1 1 0", (1,)),
                           ("mixed pairs 1 1 1 pairs 1 1 0", (2,)),
                           ("mixed pairs 1 1 1 moved 1 pairs 1 0/3 1", (2, 1)), ("scaled 0 pairs 1 1 0", ())]:
            self.same(self.refused(BadTerm, path, read_term, text), path)
        seven = "added pairs 2 0 1 1 1 pairs 6 0 1 1 1 2 1 3 1 4 1 5 1"
        self.refused(BadTerm, (), read_term, seven)
        self.refused(BadTerm, (1,), read_term, "squared " + seven)
        self.refused(BadTerm, (), read_term, "squared " * 8 + "pairs 1 1 1")
        self.same(read_term("squared " * 7 + "pairs 1 1 2"), nested("squared", 7, ONE))
        self.refused_text(1, 0, read_term, "pairs 1 1 0\n")

    def test_many_words(self):
        nineteen = term_text(comb_of(19))
        self.same(read_term("squared " + nineteen), ("squared", comb_of(19)))
        head = len(nineteen.split(" "))
        # The 21st word cannot stand, whatever it is, or if it lacks.
        for last in (" pairs 1 1 1", " x", " ", " 1", ""):
            self.refused_text(0, head + 1, read_term, "mixed " + nineteen + last)
        self.refused_text(0, 20, read_term, "squared " * 20 + "pairs 1 1 1")
        self.refused_text(0, 20, read_term, "squared " * 20 + "1")
        self.refused_text(0, 20, read_term, "squared " * 19 + "squared")
        self.refused_text(0, 19, read_term, "squared " * 19 + "x")
        self.refused(BadTerm, (), read_term, "squared " * 19 + "pairs 1 1 1")

    def test_words_of_terms(self):
        for text, word in [("", 0), ("x", 0), ("Pairs 1 1 1", 0), ("pairs", 1), ("pairs 1", 2), ("pairs 1 1", 3),
                           ("pairs 1 1 1 1", 4),
                           ("pairs 1 1 1 ", 4), ("pairs  1 1 1", 1), (" pairs 1 1 1", 0), ("pairs 0", 1),
                           ("pairs 7 1 1", 1), ("pairs 01 1 1", 1),
                           ("pairs -1 1 1", 1), ("pairs 1/1 1 1", 1), ("pairs +1 1 1", 1), ("pairs 1 x 1", 2),
                           ("pairs 1 1 x", 3), ("moved", 1),
                           ("moved 1", 2), ("moved pairs 1 1 1", 1), ("moved 1 1", 2), ("moved 1/0 pairs 1 1 1", 1),
                           ("squared", 1),
                           ("squared 1 pairs 1 1 1", 1), ("mixed pairs 1 1 1", 5), ("mixed pairs 1 1 1 pairs", 6),
                           ("added", 1),
                           ("mixed pairs 1 1 1 pairs 1 1 1 pairs 1 1 1", 9), ("pairs 1 1 1 x", 4),
                           ("scaled 1 pairs 2 1 1 2", 7), ("pairs 2 1 1 2", 5),
                           ("pairs 11 1 1", 1), ("pairs six 1 1", 1), ("heavier -0 pairs 1 1 1", 1)]:
            self.assertEqual(model_read(text), word)
            self.refused_text(0, word, read_term, text)
            self.refused_text(0, word, read_term, text + "\npairs 1 1 1")
        self.refused_text(1, 0, read_term, "pairs 1 1 1\n")
        self.refused_text(1, 0, read_term, "pairs 1 1 1\npairs 1 1 1")
        self.refused_text(0, 0, read_term, "\n")

    def test_changed_texts(self):
        r = random.Random(484)
        ends = {}
        for _ in range(2500):
            words = term_text(r.choice([HALF, ONE, line(3), ("mixed", ONE, ("moved", HALF, frac(1, 2))),
                                        ("squared", ("scaled", ONE, frac(-1))),
                                        ("added", ("heavier", ONE, frac(3)), ONE)])).split(" ")
            for _ in range(r.randint(1, 2)):
                place = r.randrange(len(words))
                deed = r.randint(0, 3)
                if deed == 0:
                    words[place] = r.choice(GOOD_WORDS + BAD_WORDS + list(TERM_WORDS))
                elif deed == 1:
                    words.insert(place, r.choice(["1", "pairs", "squared", "", "mixed", "x"]))
                elif len(words) > 1:
                    words.pop(place if deed == 2 else -1)
            text = " ".join(words)
            at = model_read(text)
            if at is not None:
                self.refused_text(0, at, read_term, text)
                ends[at] = True
                continue
            try:
                term = read_term(text)
                self.same(need_term(term), term)
                ends["term"] = True
            except BadTerm as error:
                self.refused(BadTerm, error.path, read_term, text)
                ends["no term"] = True
        self.assertGreater(len(ends), 10)
        self.assertTrue("term" in ends and "no term" in ends)

    def test_figures(self):
        self.same(read_row(NINES + " -" + NINES), fracs(int(NINES), -int(NINES)))
        self.refused_text(0, 0, read_row, NINES + "0")
        self.refused_text(0, 1, read_row, "1 -" + NINES + "0")
        self.refused_text(0, 2, read_term, "pairs 1 " + NINES + "0 1")
        self.same(read_term("pairs 1 -" + NINES + " 1/" + NINES),
                  ("pairs", ((frac(-int(NINES)), frac(1, int(NINES))),)))
        # Texts are told of longer ones, too.
        self.same(row_text(fracs(BIG)), str(BIG))


if __name__ == "__main__":
    unittest.main()
