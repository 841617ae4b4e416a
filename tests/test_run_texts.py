"""Runs as texts: promise 11."""

import random
import re
import unittest

from howfar.errors import BadRows, BadRun
from howfar.forms import is_telling
from howfar.runs import far
from howfar.texts import read_run, written_run
from tests.model import drawn_telling, fitting_plan
from tests.samples import house, odd_values

RUN = [("did", "a", 3), ("knows", "a", 5), ("found", "b", 3, "a", 5), ("found", "b", 3, "a", None), ("again", "b")]
TEXT = """\
did a 3
knows a 5
found b 3 a 5
found b 3 a ?
again b"""


class Written(unittest.TestCase):
    def assert_written(self, run, text):
        self.assertIs(type(written_run(run)), str)
        self.assertEqual(written_run(run), text)
        told = read_run(text)
        self.assertIs(type(told), list)
        self.assertEqual(told, run)
        self.assertEqual([[type(word) for word in telling] for telling in told],
                         [[type(word) for word in telling] for telling in run])
        self.assertEqual([type(telling) for telling in told], [tuple] * len(run))

    def test_the_four_forms(self):
        self.assert_written(RUN, TEXT)
        for telling, row in zip(RUN, TEXT.split("\n")):
            self.assert_written([telling], row)
        self.assertEqual(written_run(run=RUN), TEXT)
        self.assertEqual(read_run(text=TEXT), RUN)

    def test_an_empty_run(self):
        self.assert_written([], "")

    def test_bounds(self):
        for number in (1, 9, 10, 99, 100, 999, 1000):
            self.assert_written([("did", "z", number)], f"did z {number}")
            self.assert_written([("knows", "z", number)], f"knows z {number}")
            self.assert_written([("found", "z", 1, "y", number)], f"found z 1 y {number}")
        for weight in (1, 2, 10, 99, 100):
            self.assert_written([("found", "z", weight, "y", None)], f"found z {weight} y ?")
        self.assert_written([("again", "abcdefgh")], "again abcdefgh")
        self.assert_written([("found", "abcdefgh", 100, "hgfedcba", 1000)], "found abcdefgh 100 hgfedcba 1000")

    def test_words_of_the_text_as_names(self):
        for word in ("did", "knows", "found", "again", "leaf", "row", "bundle"):
            self.assert_written([("did", word, 3), ("found", word, 1, "again", 2), ("again", word)],
                                f"did {word} 3\nfound {word} 1 again 2\nagain {word}")

    def test_whatever_the_plan(self):
        # No plan has such a run.
        run = [("knows", "a", 1), ("knows", "a", 1), ("did", "a", 2), ("did", "a", 1000), ("found", "a", 1, "a", None),
               ("again", "nobody")]
        self.assert_written(run, "knows a 1\nknows a 1\ndid a 2\ndid a 1000\nfound a 1 a ?\nagain nobody")
        letters = "abcdefghijklmnopqrstuvwxyz" * 4
        self.assert_written([("found", "x", 1, letter, 1) for letter in letters],
                            "\n".join(f"found x 1 {letter} 1" for letter in letters))

    def test_the_same_telling_again_and_again(self):
        self.assert_written([("did", "a", 1)] * 300, "\n".join(["did a 1"] * 300))

    def test_drawn_runs(self):
        for seed in range(200):
            draw = random.Random(seed)
            model = fitting_plan(draw)
            run = [drawn_telling(draw, model) for _ in range(draw.randint(0, 30))]
            text = written_run(run)
            self.assertEqual(read_run(text), run)
            self.assertEqual(text.count("\n"), max(len(run) - 1, 0))

    def test_what_is_read_can_be_told(self):
        run = read_run("did ground 2\nfound house 3 roof ?\nknows roof 4\ndid roof 3")
        self.assertEqual(far(house(), run, "roof"), (3, 4))


class WrongRuns(unittest.TestCase):
    def assert_none(self, run, place):
        with self.subTest(run=run), self.assertRaises(BadRun) as caught:
            written_run(run)
        self.assertIs(type(caught.exception), BadRun)
        self.assertEqual(caught.exception.place, place)

    def assert_no_telling(self, telling):
        self.assert_none([telling], 0)
        self.assert_none([*RUN, telling, *RUN], 5)
        self.assert_none([RUN[0], telling, None], 1)

    def test_no_list(self):
        for run in odd_values(list) + [tuple(RUN), RUN[0], TEXT, iter(RUN), dict.fromkeys(RUN), {0: RUN[0]}]:
            self.assert_none(run, 0)

    def test_no_telling(self):
        for telling in odd_values() + [["did", "a", 3], ["again", "b"], "did a 3", "again b", (), ("did",), ("again",),
                                       ("did", "a"), ("did", "a", 3, 3), ("again", "b", 1), ("knows", "a"),
                                       ("found", "b", 3, "a"), ("found", "b", 3, "a", 5, 5), ("does", "a", 3),
                                       ("Did", "a", 3), ("", "a", 3), ("a", "did", 3), (b"did", "a", 3)]:
            self.assert_no_telling(telling)

    def test_names(self):
        for name in ["", "abcdefghi", "A", "a b", "a1", "a\n", "?"] + odd_values(str):
            for telling in [("did", name, 3), ("knows", name, 5), ("again", name), ("found", name, 3, "a", 5),
                            ("found", "b", 3, name, 5)]:
                self.assert_no_telling(telling)

    def test_numbers(self):
        for number in [0, -1, 1001, 10**30, "3", "?"] + odd_values(int, type(None)):
            for telling in [("did", "a", number), ("knows", "a", number), ("found", "b", 3, "a", number)]:
                self.assert_no_telling(telling)
        for telling in [("did", "a", None), ("knows", "a", None), ("found", "b", None, "a", 5)]:
            self.assert_no_telling(telling)
        for weight in [0, -1, 101, 10**30, "3"] + odd_values(int):
            self.assert_no_telling(("found", "b", weight, "a", 5))


class WrongTexts(unittest.TestCase):
    def assert_none(self, text, row):
        with self.subTest(text=text), self.assertRaises(BadRows) as caught:
            read_run(text)
        self.assertIs(type(caught.exception), BadRows)
        self.assertEqual(caught.exception.row, row, text)

    def assert_no_row(self, row):
        if row:
            self.assert_none(row, 0)
        self.assert_none(row + "\ndid a 3", 0)
        self.assert_none("did a 3\n" + row, 1)
        self.assert_none(f"{TEXT}\n{row}\n{TEXT}", 5)
        self.assert_none(f"{TEXT}\n{row}\nwrong", 5)

    def test_no_text(self):
        for text in odd_values(str) + [TEXT.encode(), [TEXT], TEXT.split("\n"), tuple(TEXT.split("\n")), {TEXT: 0}, RUN,
                                       iter(TEXT), [""], b""]:
            self.assert_none(text, 0)

    def test_rows_without_words(self):
        for row in ("", " ", "  ", "\t", "\r", "\x00"):
            self.assert_no_row(row)

    def test_line_ends(self):
        self.assert_none("\n", 0)
        self.assert_none("\n\n", 0)
        self.assert_none(TEXT + "\n", 5)
        self.assert_none(TEXT + "\n\n", 5)
        self.assert_none("\n" + TEXT, 0)
        self.assert_none(TEXT.replace("\n", "\r\n"), 0)
        self.assert_none(TEXT.replace("\n", "\n\n"), 1)
        self.assert_none(TEXT.replace("\n", "\x0b"), 0)
        self.assert_none("did a 3\x0cdid a 3", 0)
        self.assert_none("did a 3\ndid a 3\rdid a 3", 1)

    def test_blanks(self):
        for row in TEXT.split("\n"):
            self.assert_no_row(" " + row)
            self.assert_no_row("  " + row)
            self.assert_no_row(row + " ")
            self.assert_no_row(row.replace(" ", "\t"))
            self.assert_no_row(row.replace(" ", ""))
            for place in re.finditer(" ", row):
                self.assert_no_row(row[:place.start()] + " " + row[place.start():])
                self.assert_no_row(row[:place.start()] + row[place.end():])

    def test_words_too_few_and_too_many(self):
        for row in TEXT.split("\n"):
            words = row.split(" ")
            self.assert_no_row(" ".join([*words, "5"]))
            self.assert_no_row(" ".join([*words, "a"]))
            self.assert_no_row(" ".join([*words, "?"]))
            for place in range(len(words)):
                self.assert_no_row(" ".join(words[:place] + words[place + 1:]))

    def test_other_words(self):
        for row in TEXT.split("\n"):
            for word in ("Did", "does", "DID", "finds", "knew", "anew", "leaf", "row", "?", "1", "''"):
                self.assert_no_row(" ".join([word, *row.split(" ")[1:]]))
        for row in ("leaf a 5", "row b", "bundle c", "3 leaf a 5", "  3 leaf a 5"):
            self.assert_no_row(row)

    def test_names(self):
        for name in ("abcdefghi", "A", "aB", "a1", "1", "5", "a_b", "a-b", "a.b", "?", "'a'"):
            for row in (f"did {name} 3", f"knows {name} 5", f"again {name}", f"found {name} 3 a 5",
                        f"found b 3 {name} 5"):
                self.assert_no_row(row)

    def test_numbers(self):
        for number in ("0", "00", "01", "003", "0100", "1001", "10000", "01000", "9" * 5000, "-1", "+3", "3.", "3.0",
                       "1_0", "1,000", "1e2", "0x3", "a", "three", "??", "?3", "None", "!"):
            for row in (f"did a {number}", f"knows a {number}", f"found b 3 a {number}", f"found b {number} a 3"):
                self.assert_no_row(row)
        for row in ("did a ?", "knows a ?", "found b ? a 5", "found b ? a ?", "found b 101 a 5", "found b 1000 a 5"):
            self.assert_no_row(row)

    def test_changed_texts(self):
        form = re.compile("(did|knows) [a-z]{1,8} (1000|[1-9][0-9]{0,2})|again [a-z]{1,8}"
                          "|found [a-z]{1,8} (100|[1-9][0-9]?) [a-z]{1,8} (1000|[1-9][0-9]{0,2}|[?])")
        good = 0
        for seed in range(3000):
            draw = random.Random(seed)
            text = written_run(draw.choices(RUN, k=draw.randint(1, 5)))
            for _ in range(draw.randint(1, 3)):
                place = draw.randrange(len(text) + 1)
                sign = draw.choice(" \n0135?abdidagain-+.A\t")
                text = text[:place] + draw.choice(["", sign]) + text[place + draw.randint(0, 1):]
            none = [number for number, row in enumerate(text.split("\n")) if not form.fullmatch(row)]
            if none and text:
                self.assert_none(text, none[0])
            else:
                good += 1
                self.assertEqual(written_run(read_run(text)), text)
                self.assertTrue(all(is_telling(telling) for telling in read_run(text)))
        self.assertGreater(good, 300)


class NothingChanged(unittest.TestCase):
    def test_what_was_handed_in(self):
        for run in (list(RUN), [*RUN, None], [*RUN, ("did", "a", 0)]):
            copy = list(run)
            try:
                written_run(run)
            except BadRun:
                pass
            self.assertEqual(run, copy)

    def test_what_is_told_is_the_askers_own(self):
        told = read_run(TEXT)
        told.clear()
        told.append(None)
        self.assertEqual(read_run(TEXT), RUN)
        read_run("").append(1)
        self.assertEqual(read_run(""), [])

    def test_nothing_is_kept(self):
        run = list(RUN)
        text = written_run(run)
        run.clear()
        self.assertEqual(text, TEXT)


if __name__ == "__main__":
    unittest.main()
