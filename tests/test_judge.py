import random
import unittest

from rungshare.errors import BadRow, BadTerm
from rungshare.judge import judged
from rungshare.ladders import is_ended
from rungshare.marks import most_at
from rungshare.nexts import does_fit, next_fits
from rungshare.rows import moments
from rungshare.rowshares import is_of_share, ladder_of
from rungshare.terms import share_of
from rungshare.texts import row_text, term_text
from samples import ANY, Case, frac, fracs, rows_of_any_kind, some_fraction, worth
from test_terms import HALF, ONE, comb_of, line
from test_texts import BAD_WORDS, NINES, is_fraction_word, model_read, text_of

SHEET = "1 0 1 0 1"


def sheet(row, *sayings):
    return "\n".join([row_text(row)] + list(sayings))


def model_so(row, saying):
    """Whether a saying is so, by what other files tell of the row."""
    words = saying.split(" ")
    if not is_of_share(row):
        return False
    ladder = ladder_of(row)
    if words[0] == "share":
        return True
    if words[0] == "ended":
        return is_ended(ladder)
    if words[0] in ("level", "step"):
        some = ladder[1] if words[0] == "level" else (None,) + ladder[2]
        number = int(words[1])
        return number < len(some) and some[number] is not None and text_of(some[number]) == words[2]
    if words[0] == "fits":
        return len(row) < 9 and does_fit(row, frac_of(words[1]))
    if is_ended(ladder) or len(ladder[1]) != len(ladder[2]):
        return False
    return most_at(row, frac_of(words[1])) == frac_of(words[2])


def frac_of(word):
    top, _, bottom = word.partition("/")
    return frac(int(top), int(bottom or 1))


class Judge(Case):

    def test_known(self):
        self.same(judged("1"), ())
        self.same(judged("5 6 7"), ())
        self.same(judged(SHEET + "\nshare\nended"), (True, True))
        self.same(judged(SHEET + "\nlevel 0 0\nlevel 1 0\nlevel 2 0\nlevel 0 1"), (True, True, False, False))
        self.same(judged(SHEET + "\nstep 1 1\nstep 2 0\nstep 3 0\nstep 0 0\nstep 0 1\nstep 1 0"),
                  (True, True, False, False, False, False))
        self.same(judged(SHEET + "\nfits 0\nfits 1\nmost 0 1\nof pairs 2 -1 1/2 1 1/2"), (True, False, False, True))
        self.same(judged("1 0 1\nmost 0 1\nmost 1 1/2\nmost 1 1\nfits 5\nended"), (True, True, False, True, False))
        self.same(judged("1 0 -1\nshare\nended\nlevel 0 0\nstep 1 -1\nfits 0\nmost 0 1\nof pairs 1 0 1"), (False,) * 7)

    def test_by_worth(self):
        text = "1 1/2 5/4\nlevel 0 2/4\nlevel 0 1/2\nstep 1 5/5\nmost 2/4 7/7\nfits 3/9\nmost 0/3 8/10\nmost 1/2 3/3"
        self.same(judged(text), (True, True, True, True, True, True, True))
        self.same(judged("1 0 0\nstep 1 0/7\nfits 0/2\nfits 2/2"), (True, True, False))

    def test_rows(self):
        r = random.Random(491)
        seen = {}
        for row in rows_of_any_kind(492, 40):
            if any([len(part) > 31 for pair in row for part in (str(pair[0]), str(pair[1]))]):
                continue
            ladder = ladder_of(row) if is_of_share(row) else (frac(1), fracs(1, 2), fracs(3, 4))
            sayings = ["share", "ended", "fits 0", "most 0 " + text_of(row[0]), "step 0 0", "level 9 0", "step 9 0"]
            for k, level in enumerate(ladder[1]):
                head = "level " + str(k) + " "
                sayings += [head + text_of(level), head + text_of(frac(worth(level) + 1))]
            for k, step in enumerate(ladder[2], start=1):
                head = "step " + str(k) + " "
                sayings += [head + text_of(step), head + text_of(frac(worth(step) + 1))]
            if is_of_share(row):
                if len(row) < 9:
                    told = next_fits(row)
                    least = told[-1] if len(told) > 1 else some_fraction(r)
                    sayings += ["fits " + text_of(least), "fits " + text_of(frac(worth(least) - 1)),
                                "fits " + text_of(frac(worth(least) + 1))]
                if not is_ended(ladder) and len(ladder[1]) == len(ladder[2]):
                    mark = frac(r.randint(-2, 2))
                    most = most_at(row, mark)
                    head = "most " + text_of(mark) + " "
                    sayings += [head + text_of(most), head + text_of(frac(worth(most) * 2))]
            sayings = [one for one in sayings if all([is_fraction_word(word) for word in one.split(" ")[1:]])]
            wanted = tuple([model_so(row, saying) for saying in sayings])
            self.same(self.twice(judged, sheet(row, *sayings)), wanted)
            for saying, so in zip(sayings, wanted):
                seen[saying.split(" ")[0], so] = True
        self.assertEqual(len(seen), 12)

    def test_terms(self):
        r = random.Random(493)
        for top in range(9):
            for term in [ONE, HALF, ("added", HALF, ("moved", HALF, frac(1, 3))), ("squared", line(3)),
                         ("mixed", HALF, ("heavier", ONE, frac(2)))]:
                row = moments(share_of(term), top)
                self.same(judged(sheet(row, "of " + term_text(term))), (True,))
                place = r.randint(0, top)
                other = row[:place] + (frac(worth(row[place]) + 1),) + row[place + 1:]
                self.same(judged(sheet(other, "of " + term_text(term), "of " + term_text(term))), (False, False))
        # It is asked of the row alone, not whether it is of a share.
        self.same(judged("1 0 -1\nof pairs 1 0 1"), (False,))
        self.same(judged("1\nof pairs 1 5 1\nof pairs 1 5 2"), (True, False))

    def test_nine(self):
        text = " ".join(["1"] * 9)
        self.same(judged(text + "\nfits 1\nfits 0\nended\nshare"), (False, False, True, True))
        self.same(judged(" ".join(["1"] * 8) + "\nfits 1\nfits 0"), (True, False))

    def test_numbers(self):
        # An I that there is not is not so, however great.
        self.same(judged(SHEET + "\nlevel " + NINES + " 0\nstep " + NINES + " 0\nlevel 0 0\nstep 2 0"),
                  (False, False, True, True))
        for word in ["", "-1", "+1", "01", "x", "1/2", "1/1", "-0", "1" * 32]:
            self.refused_text(1, 1, judged, SHEET + "\nlevel " + word + " 0")
            self.refused_text(2, 1, judged, SHEET + "\nshare\nstep " + word + " 0")

    def test_refused(self):
        for thing in [one for one in ANY if not isinstance(one, str)]:
            self.refused_text(None, None, judged, thing)
        for text, at, word in [("", 0, 0), ("x", 0, 0), ("1 x\nshare", 0, 1), ("1 \nshare", 0, 1), ("1\n", 1, 0),
                               ("1\nshare\n", 2, 0), ("1\n\nshare", 1, 0),
                               ("1\nx", 1, 0), ("1\nShare", 1, 0), ("1\nshare ", 1, 1), ("1\nshare x", 1, 1),
                               ("1\n share", 1, 0), ("1\nended 1", 1, 1),
                               ("1\nlevel", 1, 1), ("1\nlevel 1", 1, 2), ("1\nlevel 1 1 1", 1, 3),
                               ("1\nlevel 1  1", 1, 2), ("1\nstep", 1, 1),
                               ("1\nstep 1", 1, 2), ("1\nstep 1 x", 1, 2), ("1\nstep 1 1 ", 1, 3), ("1\nfits", 1, 1),
                               ("1\nfits x", 1, 1), ("1\nfits 1 2", 1, 2),
                               ("1\nfits 1/0", 1, 1), ("1\nmost", 1, 1), ("1\nmost 1", 1, 2), ("1\nmost 1 1 1", 1, 3),
                               ("1\nmost x 1", 1, 1), ("1\nmost 1 x", 1, 2),
                               ("1\nof", 1, 1), ("1\nof x", 1, 1), ("1\nof pairs", 1, 2), ("1\nof pairs 1 1 1 1", 1, 5),
                               ("1\nof pairs 7 1 1", 1, 2),
                               ("1\nof of pairs 1 1 1", 1, 1), ("1\nrow", 1, 0), ("1\n1", 1, 0),
                               (" ".join(["1"] * 10) + "\nx", 0, 9), ("1\nshare\nx\ny", 2, 0),
                               ("1\npairs 1 1 1", 1, 0), ("1\nshare\n\n", 2, 0)]:
            self.refused_text(at, word, judged, text)
        for word in BAD_WORDS:
            if " " not in word:
                self.refused_text(1, 1, judged, "1\nfits " + word)
                self.refused_text(1, 2, judged, "1\nmost 1 " + word)
                self.refused_text(1, 2, judged, "1\nlevel 1 " + word)

    def test_terms_refused(self):
        for text in ["", "pairs", "pairs 2 1 1", "moved pairs 1 1 1", "mixed pairs 1 1 1", "pairs 1 1 1 1", "squared x",
                     "pairs 1 1 1 "]:
            self.refused_text(2, 1 + model_read(text), judged, "1\nshare\nof " + text)
        head = len(term_text(comb_of(19)).split(" "))
        self.same(judged("1\nof squared " + term_text(comb_of(19))), (False,))
        self.refused_text(1, head + 2, judged, "1\nof mixed " + term_text(comb_of(19)) + " pairs 1 1 1")
        # Each of them may have 20 words.
        self.same(judged("1\nof squared " + term_text(comb_of(19)) + "\nof squared " + term_text(comb_of(19))),
                  (False, False))

    def test_order(self):
        # All lines ahead of the row, the row ahead of the terms, the first of these.
        self.refused_text(1, 0, judged, "0\nx")
        self.refused_text(2, 0, judged, "0\nof pairs 1 1 0\nx")
        self.refused_text(0, 0, judged, "x\nof pairs 1 1 0\nx")
        self.same(self.refused(BadRow, ((0, 1),), judged, "0\nof pairs 1 1 0"), ((0, 1),))
        self.same(self.refused(BadRow, ((2, 4), (1, 1)), judged, "2/4 1"), ((2, 4), (1, 1)))
        self.refused(BadRow, ((-1, 1),), judged, "-1\nshare")
        self.refused(BadTerm, (1,), judged, "1\nof squared pairs 1 1 0\nof pairs 1 1 0")
        self.refused(BadTerm, (), judged, "1\nshare\nof pairs 1 1 1\nof pairs 1 2/4 1\nof squared pairs 1 1 0")
        self.refused(BadTerm, (), judged, "1\nof added pairs 2 0 1 1 1 pairs 6 0 1 1 1 2 1 3 1 4 1 5 1")
        self.refused(BadTerm, (2,), judged, "1 0 -1\nof mixed pairs 1 1 1 scaled 0 pairs 1 1 1")


if __name__ == "__main__":
    unittest.main()
