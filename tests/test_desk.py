import random
import unittest

from rungshare.book import Book
from rungshare.desk import Desk
from rungshare.errors import BadRow, NoShare
from rungshare.ladders import is_ended
from rungshare.marks import most_at
from rungshare.nexts import does_fit, next_fits
from rungshare.rows import moments
from rungshare.rowshares import is_of_share, ladder_of, row_paper
from rungshare.texts import row_text
from samples import ANY, Case, frac, fracs, model_row, rows_of_any_kind, some_fraction, some_share, worth
from test_texts import BAD_WORDS, NINES, text_of

PLAIN = "1 0 1 0"


def told_fits(told):
    return " ".join([told[0]] + [text_of(one) for one in told[1:]])


def model_answer(row, line):
    """The answer to a line, and the row behind it, by what other files tell of the row."""
    words, ladder = line.split(" "), ladder_of(row)
    fits = next_fits(row) if len(row) < 9 else None
    if words[0] == "row":
        return row_text(row), row
    if words[0] == "next":
        return ("full" if fits is None else told_fits(fits)), row
    if words[0] == "ladder":
        some = [ladder[1 + k % 2][k // 2] for k in range(len(ladder[1]) + len(ladder[2]))]
        return (" ".join([text_of(one) for one in some]) or "none"), row
    if words[0] == "closed":
        return ("yes" if is_ended(ladder) else "no"), row
    if words[0] == "heard":
        return str(len(row) - 1), row
    if words[0] == "undo":
        return ("done", row[:-1]) if len(row) > 1 else ("nothing", row)
    if words[0] == "most":
        if is_ended(ladder) or len(ladder[1]) != len(ladder[2]):
            return "no", row
        return text_of(most_at(row, pair_of(words[1]))), row
    if words[0] == "moment":
        number = int(words[1])
        if number < len(row):
            return text_of(row[number]), row
        if is_ended(ladder) and number <= 20:
            return text_of(model_row(ladder, number)[-1]), row
        return "no", row
    mark = pair_of(words[1])
    if fits is None or not does_fit(row, mark):
        return "no", row
    row = row + (mark,)
    return ("full" if len(row) == 9 else told_fits(next_fits(row))), row


def pair_of(word):
    top, _, bottom = word.partition("/")
    return frac(int(top), int(bottom or 1))


class Desks(Case):

    def says(self, desk, line, wanted, row=None):
        """The answer, the book standing as before, if no row is told."""
        row = desk.book.row_now if row is None else row
        self.same(desk.say(line), wanted)
        self.same(desk.book.row_now, row)

    def test_known(self):
        desk = Desk(PLAIN)
        for line, wanted in [("row", "1 0 1 0"), ("next", "from 1"), ("ladder", "0 1 0"), ("closed", "no"),
                             ("heard", "3"), ("most 0", "no"),
                             ("moment 0", "1"), ("moment 3", "0"), ("moment 4", "no"), ("hear 1/2", "no")]:
            self.says(desk, line, wanted)
        self.same(desk.say("hear 3/2"), "any")
        self.says(desk, "ladder", "0 1 0 1/2")
        self.says(desk, "most 0", "1/3")
        self.same(desk.say("undo"), "done")
        self.same(desk.say("hear 1"), "only 0")
        for line, wanted in [("closed", "yes"), ("ladder", "0 1 0 0"), ("next", "only 0"), ("hear 1", "no"),
                             ("moment 5", "0"), ("moment 6", "1"),
                             ("moment 20", "1"), ("moment 21", "no"), ("most 0", "no"), ("row", "1 0 1 0 1"),
                             ("heard", "4")]:
            self.says(desk, line, wanted)
        desk = Desk("7/2")
        for line, wanted in [("row", "7/2"), ("next", "any"), ("ladder", "none"), ("closed", "no"), ("heard", "0"),
                             ("most 5", "7/2"), ("undo", "nothing"),
                             ("moment 0", "7/2"), ("moment 1", "no")]:
            self.says(desk, line, wanted)
        self.same(desk.say("hear -1/2"), "from 1/14")

    def test_book(self):
        desk = Desk(PLAIN)
        self.assertIs(type(desk.book), Book)
        self.assertIs(desk.book, desk.book)
        self.same(desk.book.row_now, fracs(1, 0, 1, 0))
        self.same(len(desk.book), 3)
        desk.book.hear(frac(2))
        self.says(desk, "row", "1 0 1 0 2")
        with desk.book.trial():
            self.same(desk.say("hear 5"), "from 29")
        self.says(desk, "heard", "4")
        self.assertTrue(Desk(PLAIN).book == Desk(PLAIN).book)

    def test_random(self):
        r = random.Random(501)
        seen = {}
        for _ in range(25):
            share = some_share(r, r.randint(1, 5), -2, 2)
            row = moments(share, r.randint(0, 4))
            desk = Desk(row_text(row))
            self.same(desk.book.row_now, row)
            for _ in range(40):
                fits = next_fits(row) if len(row) < 9 else ("any",)
                mark = fits[-1] if len(fits) > 1 else some_fraction(r, 3)
                others = [mark, frac(worth(mark) + 1), frac(worth(mark) - 1), moments(share, 8)[min(len(row), 8)]]
                line = r.choice(["row", "next", "ladder", "closed", "heard", "undo",
                                 "most " + text_of(some_fraction(r, 3)),
                                 "moment " + str(r.randint(0, 22)), "hear", "hear", "hear", "hear"])
                if line == "hear":
                    mark = r.choice(others)
                    if max(len(str(mark[0])), len(str(mark[1]))) > 31:
                        continue
                    line += " " + text_of(mark)
                wanted, row = model_answer(row, line)
                self.says(desk, line, wanted, row)
                seen[line.split(" ")[0], wanted.split(" ")[0] if wanted[0].islower() else "told"] = True
        for answer in [("next", "full"), ("next", "from"), ("next", "only"), ("next", "any"), ("hear", "no"),
                       ("hear", "any"), ("hear", "only"),
                       ("hear", "full"), ("closed", "yes"), ("closed", "no"), ("most", "no"), ("most", "told"),
                       ("moment", "no"), ("moment", "told"),
                       ("undo", "done")]:
            self.assertIn(answer, seen)

    def test_nine(self):
        desk = Desk(" ".join(["1"] * 8))
        self.says(desk, "next", "only 1")
        self.same(desk.say("hear 1"), "full")
        self.says(desk, "next", "full")
        self.says(desk, "hear 1", "no")
        self.says(desk, "heard", "8")
        self.says(desk, "moment 20", "1")
        desk = Desk(row_text(moments(some_share(random.Random(502), 6, -1, 1), 8)))
        self.says(desk, "next", "full")
        self.says(desk, "hear 1", "no")
        self.says(desk, "moment 9", "no")
        self.assertNotEqual(desk.say("most 0"), "no")
        for _ in range(8):
            self.same(desk.say("undo"), "done")
        self.says(desk, "undo", "nothing")
        self.says(desk, "undo", "nothing")

    def test_no(self):
        desk = Desk("1 0 1")
        for word in ["row", "next", "ladder", "closed", "heard", "undo"]:
            for line in [word + " ", " " + word, word + " 1", word + " x", word.upper(), word + "\n", word + "s",
                         word + word, "\n" + word]:
                self.says(desk, line, "no")
        for word in ["hear", "most", "moment"]:
            for line in [word, word + " ", " " + word + " 1", word + " 1 ", word + "  1", word + " 1 1", word + " x",
                         word + " 1\n", word + "1",
                         word.upper() + " 1", word + "\t1", word + "/1", "1 " + word]:
                self.says(desk, line, "no")
        for bad in BAD_WORDS + ["2/4", "0/5", "2/2", NINES + "/" + NINES, "-4/6"]:
            self.says(desk, "hear " + bad, "no")
            self.says(desk, "most " + bad, "no")
        for bad in ["", "-1", "-0", "+1", "01", "1/1", "1/2", "x", "21", NINES, "1" * 32, "3", "20"]:
            self.says(desk, "moment " + bad, "no")
        for line in ["", " ", "x", "share", "level 0 0", "fits 1", "pairs 1 1 1", "row\nrow", "no", "yes"]:
            self.says(desk, line, "no")
        for thing in [one for one in ANY if not isinstance(one, str)] + [["row"], b"row", ("row",), {"row": 1},
                                                                         {"row"}]:
            self.says(desk, thing, "no")
        self.says(desk, "most 3/1", "1/10")
        self.same(desk.say("hear " + NINES), "from " + str(int(NINES) ** 2 + 1))

    def test_closed_moments(self):
        share = some_share(random.Random(503), 3, -2, 2)
        desk = Desk(row_text(moments(share, 6)))
        sums = [sum([worth(w) * worth(n) ** k for n, w in share]) for k in range(21)]
        for number in range(21):
            self.says(desk, "moment " + str(number), str(sums[number]))
        self.says(desk, "moment 21", "no")
        desk.say("undo")
        self.says(desk, "moment 5", str(sums[5]))
        self.says(desk, "moment 6", "no")

    def test_refused(self):
        for thing in [one for one in ANY if not isinstance(one, str)]:
            self.refused_text(None, None, Desk, thing)
        for text, at, word in [("", 0, 0), ("1\n", 1, 0), ("1\nshare", 1, 0), ("1 x", 0, 1), (" 1", 0, 0), ("1 ", 0, 1),
                               (" ".join(["1"] * 10), 0, 9),
                               ("0 x", 0, 1), ("0\n1", 1, 0)]:
            self.refused_text(at, word, Desk, text)
        self.same(self.refused(BadRow, ((0, 1),), Desk, "0"), ((0, 1),))
        self.same(self.refused(BadRow, ((1, 1), (2, 4)), Desk, "1 2/4"), ((1, 1), (2, 4)))
        seen = {}
        for row in rows_of_any_kind(504, 30):
            if any([len(str(abs(part))) > 31 for pair in row for part in pair]):
                continue
            if is_of_share(row):
                self.same(Desk(row_text(row)).book.row_now, row)
            else:
                self.refused(NoShare, row_paper(row), Desk, row_text(row))
                seen[row_paper(row)[0]] = True
        self.assertEqual(sorted(seen), ["rest", "square"])


if __name__ == "__main__":
    unittest.main()
