"""Plans as texts: promise 11."""

import random
import re
import unittest

from howfar.errors import BadRows
from howfar.runs import became
from howfar.texts import read, written
from howfar.works import Bundle, Leaf, Row, Work
from tests.model import fitting_plan
from tests.samples import crowd, house, leaves, nested, odd_values, shape

HOUSE = """\
row house
  2 leaf ground 5
  4 row walls
    3 leaf bricks 4
    1 leaf plaster ?
  3 bundle inside
    2 leaf pipes 6
    2 leaf wires 3
    1 leaf paint ?"""

DEEP = """\
row d
  1 row c
    1 row b
      1 row a
        1 leaf leaf 10"""


def rows(*each):
    """The text of these rows."""
    return "\n".join(each)


def twenty_rows():
    """The rows of a plan with 20 works, of which the last one has room for one more."""
    text = ["row top"]
    for name, letters in (("one", "abcdef"), ("two", "ghijkl"), ("three", "mnop")):
        text += [f"  1 row {name}"] + [f"    1 leaf {letter} 1" for letter in letters]
    return text


class Written(unittest.TestCase):
    def assert_written(self, plan, text):
        self.assertIs(type(written(plan)), str)
        self.assertEqual(written(plan), text)
        self.assertEqual(shape(read(text)), shape(plan))

    def test_a_leaf(self):
        self.assert_written(Leaf("a", 5), "leaf a 5")
        self.assert_written(Leaf("a"), "leaf a ?")
        for steps in (1, 10, 999, 1000):
            self.assert_written(Leaf("abcdefgh", steps), f"leaf abcdefgh {steps}")

    def test_a_row_and_a_bundle(self):
        self.assert_written(Row("b", [(3, Leaf("a", 5))]), "row b\n  3 leaf a 5")
        self.assert_written(Bundle("c", [(3, Leaf("a"))]), "bundle c\n  3 leaf a ?")
        self.assert_written(Row("b", [(100, Leaf("z", 5)), (1, Leaf("a", 1000))]),
                            "row b\n  100 leaf z 5\n  1 leaf a 1000")

    def test_works_within_works(self):
        self.assert_written(house(), HOUSE)
        self.assert_written(nested(5), DEEP)
        self.assertEqual(written(plan=house()), HOUSE)

    def test_parts_behind_works_within_works(self):
        plan = Bundle("x", [(1, Row("y", [(2, Bundle("z", leaves("ab"))), (3, Leaf("c"))])), (4, Leaf("d", 1))])
        self.assert_written(plan, rows("bundle x", "  1 row y", "    2 bundle z", "      1 leaf a 10",
                                       "      1 leaf b 10", "    3 leaf c ?", "  4 leaf d 1"))

    def test_words_of_the_text_as_names(self):
        plan = Row("row", [(1, Leaf("leaf", 5)), (2, Bundle("bundle", leaves(["did", "again"])))])
        self.assert_written(plan, rows("row row", "  1 leaf leaf 5", "  2 bundle bundle", "    1 leaf did 10",
                                       "    1 leaf again 10"))

    def test_what_a_plan_became(self):
        plan = became(house(), [("found", "house", 7, "roof", None), ("knows", "plaster", 8)])
        self.assert_written(plan, HOUSE.replace("plaster ?", "plaster 8") + "\n  7 leaf roof ?")

    def test_six_parts_and_twenty_works(self):
        for elder, word in ((Row, "row"), (Bundle, "bundle")):
            self.assert_written(elder("x", leaves("abcdef")),
                                rows(f"{word} x", *[f"  1 leaf {name} 10" for name in "abcdef"]))
        self.assertEqual(shape(read(written(crowd(20)))), shape(crowd(20)))
        self.assertEqual(len(read(written(crowd(20))).names()), 20)

    def test_drawn_plans(self):
        for seed in range(400):
            model = fitting_plan(random.Random(seed))
            self.assert_written(model.work(), "\n".join(model.rows()))


class Read(unittest.TestCase):
    def test_kinds(self):
        for text, kind in (("leaf a 5", Leaf), ("row b\n  1 leaf a 5", Row), ("bundle b\n  1 leaf a 5", Bundle)):
            self.assertIs(type(read(text)), kind)
            self.assertIsInstance(read(text=text), Work)

    def test_each_time_a_new_plan(self):
        one, other = read(HOUSE), read(HOUSE)
        self.assertIsNot(one, other)
        one.parts().clear()
        one.names().clear()
        self.assertEqual((shape(one), shape(other)), (shape(house()), shape(house())))


class ReadTest(unittest.TestCase):
    def assert_none(self, text, row):
        with self.subTest(text=text), self.assertRaises(BadRows) as caught:
            read(text)
        self.assertIs(type(caught.exception), BadRows)
        self.assertEqual(caught.exception.row, row, text)


class Forms(ReadTest):
    """Rows that aren't written so."""

    bad_leaves = [
        "", " ", "  ", "leaf", "leaf a", "a 5", "leaf 5", "leaf 5 a", "leaf a 5 ", "leaf a 5 5", "leaf a  5",
        "leaf  a 5", "leaf a5", "leafa 5", "leaf a\t5", "leaf\ta 5", "leaf a 5\t", "leaf a 5\r", "\rleaf a 5",
        "leaf a 5\x0b", "leaf a 5\x0c", "leaf a 5\x00", "Leaf a 5", "LEAF a 5", "leaves a 5", "leaf A 5", "leaf a1 5",
        "leaf a_b 5", "leaf a.b 5", "leaf abcdefghi 5", "leaf  5", "leaf a 05", "leaf a 005", "leaf a 00005",
        "leaf a 0", "leaf a 00", "leaf a -1", "leaf a -5", "leaf a +5", "leaf a 5.", "leaf a 5.0", "leaf a 1e2",
        "leaf a 0x5", "leaf a 1_0", "leaf a 1,000", "leaf a 1001", "leaf a 10000", "leaf a 99999",
        "leaf a " + "9" * 5000, "leaf a 01000", "leaf a ??", "leaf a None", "leaf a none", "leaf a five", "leaf a !",
        "leaf a b", "leaf a row", "leaf ? 5", "leaf ? ?", "leaf a ? ", "leaf a ?5", "leaf a 5?", "leaf, a, 5",
        "'leaf a 5'", "#leaf a 5", "xleaf a 5", "leaf a 5 # five", "did a 5", "again a", "knows a 5"]
    bad_elders = ["row", "row ", "row b ", "row  b", "row b 5", "row b ?", "row b b", "Row b", "rows b", "row B",
                  "row b1", "row abcdefghi", "rowb", "row\tb", "row b\t", "row b\r", "row 5", "row ?"]

    def test_in_the_first_row(self):
        for row in self.bad_leaves:
            self.assert_none(row, 0)
            self.assert_none(row + "\n  1 leaf z 5", 0)
        for row in self.bad_elders:
            self.assert_none(row + "\n  1 leaf z 5", 0)
            self.assert_none(row.replace("row", "bundle").replace("Row", "Bundle") + "\n  1 leaf z 5", 0)

    def test_in_a_parts_row(self):
        for row in self.bad_leaves + self.bad_elders:
            self.assert_none(rows("row x", "  1 " + row), 1)
            self.assert_none(rows("row x", "  1 leaf z 5", "  1 " + row), 2)
            self.assert_none(rows("row x", "  1 leaf z 5", "  1 " + row, "  1 leaf y 5"), 2)
            self.assert_none(rows("row x", "  1 bundle y", "    1 " + row, "  1 leaf z 5"), 2)

    def test_weights(self):
        for weight in ("", "0", "00", "01", "001", "0100", "101", "1000", "9" * 5000, "-1", "+1", "1.", "1.0", "a", "?",
                       "1 1", "1_0", "1,", "one", "None", "1\t", "\t1"):
            self.assert_none(rows("row x", f"  {weight} leaf a 5"), 1)
            self.assert_none(rows("row x", "  1 leaf z 5", f"  {weight} row y", "    1 leaf a 5"), 2)
        for weight in (1, 2, 10, 99, 100):
            self.assertEqual(read(f"row x\n  {weight} leaf a 5").parts()[0][0], weight)

    def test_a_weight_where_none_belongs_and_none_where_one_does(self):
        for row in ("leaf a 5", "row a", "bundle a"):
            self.assert_none(rows("1 " + row, "  1 leaf b 5"), 0)
            self.assert_none(rows("row x", "  " + row, "    1 leaf b 5"), 1)
            self.assert_none(rows("row x", "  1 leaf b 5", "  " + row), 2)

    def test_blanks_between_a_weight_and_its_work(self):
        self.assert_none(rows("row x", "  1  leaf a 5"), 1)
        self.assert_none(rows("row x", "  1leaf a 5"), 1)
        self.assert_none(rows("row x", "  1\tleaf a 5"), 1)

    def test_blanks_ahead_by_halves(self):
        for blanks in (1, 3, 5):
            self.assert_none(rows("row x", " " * blanks + "1 leaf a 5"), 1)
            self.assert_none(rows("row x", "  1 leaf b 5", " " * blanks + "1 leaf a 5"), 2)
        for ahead in ("\t", " \t", "\t\t", "\x00\x00", "..", "--", "\x0b "):
            self.assert_none(rows("row x", ahead + "1 leaf a 5"), 1)

    def test_line_ends(self):
        for text in ("leaf a 5", HOUSE, DEEP):
            many = text.count("\n") + 1
            self.assert_none(text + "\n", many)
            self.assert_none(text + "\n\n", many)
            self.assert_none("\n" + text, 0)
            self.assert_none(text + "\n ", many)
        self.assert_none(HOUSE.replace("\n", "\r\n"), 0)
        self.assert_none(HOUSE.replace("\n", "\r"), 0)
        self.assert_none(HOUSE.replace("\n", "\n\n"), 1)
        self.assert_none(HOUSE.replace("\n", "\x0b"), 0)
        self.assert_none("row x\n  1 leaf a 5\x0c\n  1 leaf b 5", 1)

    def test_an_empty_text(self):
        self.assert_none("", 0)
        self.assert_none("\n", 0)
        self.assert_none(" ", 0)

    def test_no_text(self):
        for text in odd_values(str) + [HOUSE.encode(), [HOUSE], HOUSE.split("\n"), tuple(HOUSE.split("\n")), {HOUSE: 0},
                                       Leaf("a", 5), house(), iter(HOUSE)]:
            self.assert_none(text, 0)


class Places(ReadTest):
    """Rows that can't stand where they do."""

    def test_the_first_one_alone_has_no_blanks_ahead(self):
        self.assert_none("  leaf a 5", 0)
        self.assert_none("  1 leaf a 5", 0)
        self.assert_none("\n".join("  " + row for row in HOUSE.split("\n")), 0)
        for row in ("leaf b 5", "row b", "bundle b", "1 leaf b 5"):
            self.assert_none(rows("leaf a 5", row), 1)
            self.assert_none(rows("row a", row), 1)
            self.assert_none(rows("row x", "  1 leaf a 5", row, "  1 leaf c 5"), 2)
        self.assert_none(HOUSE + "\n" + HOUSE, 9)

    def test_a_leaf_has_no_parts(self):
        self.assert_none(rows("leaf a 5", "  1 leaf b 5"), 1)
        self.assert_none(rows("row x", "  1 leaf a 5", "    1 leaf b 5"), 2)
        self.assert_none(rows("row x", "  1 row y", "    1 leaf a 5", "  1 leaf b 5", "    1 leaf c 5"), 4)

    def test_a_step_too_deep(self):
        self.assert_none(rows("row x", "    1 leaf a 5"), 1)
        self.assert_none(rows("row x", "  1 leaf a 5", "      1 leaf b 5"), 2)
        self.assert_none(rows("row x", "  1 row y", "      1 leaf b 5"), 2)
        self.assert_none(rows("row x", "  1 row y", "    1 leaf a 5", "        1 leaf b 5"), 3)

    def test_behind_a_work_that_is_done_with(self):
        # The last row with two blanks less is z's, but z's parts would have to stand straight behind it.
        self.assert_none(rows("row x", "  1 row y", "    1 row z", "      1 leaf a 5", "  1 leaf b 5",
                              "      1 leaf c 5"), 5)
        self.assert_none(rows("row x", "  1 row y", "    1 leaf a 5", "  1 leaf b 5", "    1 leaf c 5"), 4)

    def test_back_by_several_steps(self):
        text = rows("row x", "  1 row y", "    1 row z", "      1 leaf a 5", "  1 leaf b 5")
        self.assertEqual(read(text).names(), ["x", "y", "z", "a", "b"])
        self.assertEqual([part.name() for _, part in read(text).parts()], ["y", "b"])

    def test_a_row_of_the_house_moved(self):
        self.assertEqual(shape(read(HOUSE)), shape(house()))
        text = HOUSE.split("\n")
        # One step deeper: behind a leaf it can't stand, behind a row it is left without parts, or its parts stay.
        for place in range(1, 9):
            moved = [*text[:place], "  " + text[place], *text[place + 1:]]
            # The bundle would be a part of the walls, but is left without parts.
            self.assert_none(rows(*moved), 6 if place == 5 else place)
        # One step less deep.
        for place, first in ((1, 1), (2, 2), (3, 3), (5, 5), (6, 6)):
            self.assert_none(rows(*[*text[:place], text[place][2:], *text[place + 1:]]), first)
        less = rows(*[*text[:4], text[4][2:], *text[5:]])
        self.assertEqual([part.name() for _, part in read(less).parts()], ["ground", "walls", "plaster", "inside"])
        less = rows(*[*text[:7], text[7][2:], *text[8:]])
        self.assert_none(less, 8)
        less = rows(*[*text[:8], text[8][2:]])
        self.assertEqual([part.name() for _, part in read(less).parts()], ["ground", "walls", "inside", "paint"])


class Bounds(ReadTest):
    """Rows that with those ahead break 2."""

    def test_a_name_told_twice(self):
        text = HOUSE.split("\n")
        names = house().names()
        for place in range(1, 9):
            for ahead in range(place):
                row = text[place].replace(names[place], names[ahead])
                self.assert_none(rows(*text[:place], row, *text[place + 1:]), place)
        self.assert_none(HOUSE + "\n  1 leaf house 5", 9)
        self.assert_none(rows("row x", "  1 row y", "    1 leaf a 5", "  1 row z", "    1 leaf a 5"), 4)

    def test_twenty_works(self):
        text = twenty_rows()
        self.assertEqual(len(read(rows(*text)).names()), 20)
        self.assert_none(rows(*text, "  1 leaf more 5"), 20)
        self.assert_none(rows(*text, "    1 leaf more 5"), 20)
        self.assert_none(rows(*text, "  1 leaf more 5", "  1 leaf top 5"), 20)
        self.assert_none(rows(*text[:19], "  1 row more"), 20)
        self.assert_none(rows(*text[:19], "  1 row more", "    1 leaf most 5"), 20)
        self.assert_none(written(crowd(20)) + "\n  1 leaf more 5", 20)

    def test_seven_parts(self):
        for word in ("row", "bundle"):
            text = [f"{word} x"] + [f"  1 leaf {name} 5" for name in "abcdef"]
            self.assertEqual(len(read(rows(*text)).parts()), 6)
            self.assert_none(rows(*text, "  1 leaf g 5"), 7)
            self.assert_none(rows(*text, "  1 row g", "    1 leaf h 5"), 7)

    def test_seven_parts_with_others_between(self):
        text = ["row x"]
        for name in "abcdef":
            text += [f"  1 row {name}", f"    1 leaf {name * 2} 5", f"    1 leaf {name * 3} 5"]
        self.assertEqual(len(read(rows(*text)).parts()), 6)
        self.assert_none(rows(*text, "  1 leaf g 5"), 19)
        self.assertEqual(len(read(rows(*text, "    1 leaf g 5")).names()), 20)

    def test_six_parts_of_each(self):
        text = ["row x", "  1 row y"] + [f"    1 leaf {name} 5" for name in "abcdef"] + ["  1 row z"]
        text += [f"    1 leaf {name} 5" for name in "ghijkl"]
        self.assertEqual(len(read(rows(*text)).names()), 15)
        self.assert_none(rows(*text, "    1 leaf m 5"), 15)
        self.assert_none(rows(*text[:8], "    1 leaf m 5", *text[8:]), 8)

    def test_five_within_one_another(self):
        self.assertEqual(shape(read(DEEP)), shape(nested(5)))
        deep = DEEP.replace("leaf leaf 10", "row leaf")
        self.assert_none(deep, 5)
        self.assert_none(deep + "\n          1 leaf more 5", 5)
        self.assert_none(deep + "\n        1 leaf more 5", 5)
        self.assert_none(DEEP + "\n          1 leaf more 5", 5)
        self.assert_none("  " * 10**5 + "1 leaf a 5", 0)
        self.assert_none("row x\n" + "  " * 10**5 + "1 leaf a 5", 1)


class WithoutParts(ReadTest):
    def test_at_the_end(self):
        for word in ("row", "bundle"):
            self.assert_none(f"{word} a", 1)
            self.assert_none(rows("row x", f"  1 {word} a"), 2)
            self.assert_none(rows("row x", "  1 leaf b 5", f"  1 {word} a"), 3)
            self.assert_none(rows(*HOUSE.split("\n"), f"  1 {word} a"), 10)

    def test_in_the_midst(self):
        for word in ("row", "bundle"):
            self.assert_none(rows("row x", f"  1 {word} a", "  1 leaf b 5"), 2)
            self.assert_none(rows("row x", f"  1 {word} a", "  1 row b", "    1 leaf c 5"), 2)
            self.assert_none(rows("row x", "  1 row y", f"    1 {word} a", "    1 leaf b 5"), 3)
            self.assert_none(rows("row x", "  1 row y", f"    1 {word} a", "  1 leaf b 5"), 3)

    def test_the_first_of_several(self):
        self.assert_none(rows("row x", "  1 row a", "  1 row b"), 2)
        self.assert_none(rows("row x", "  1 row a", "  2 row x"), 2)
        self.assert_none(rows("row x", "  1 row a", "nothing"), 2)
        self.assert_none(rows("row x", "  1 leaf a 0", "  1 row b"), 1)
        self.assert_none(rows("row x", "  1 row a", ""), 2)


class FirstOf(ReadTest):
    def test_the_first_row_that_is_none_is_told(self):
        bad = ["  1 leaf a 0", "leaf b 5", "      1 leaf c 5", "  1 leaf x 5", "  1  leaf d 5", ""]
        for first in bad:
            for second in bad:
                self.assert_none(rows("row x", first, second), 1)
                self.assert_none(rows("row x", "  1 leaf y 5", first, second, "  1 leaf z 5"), 2)


# What is needed of a row, told in another way than the program does.
FORM = re.compile("((?:  )*)(?:(100|[1-9][0-9]?) )?"
                  "(?:leaf ([a-z]{1,8}) (?:1000|[1-9][0-9]{0,2}|[?])|(?:row|bundle) ([a-z]{1,8}))")


def first_none(text):
    """The number of the first row that is none; None where the text writes a plan."""
    # The numbers of parts of all works that the next row may be a part of; None is a leaf's.
    path, names = [], []
    for number, row in enumerate(text.split("\n")):
        form = FORM.fullmatch(row)
        if not form:
            return number
        blanks, weight, leaf, elder = form.groups()
        depth, name = len(blanks) // 2, leaf or elder
        if (depth == 0) != (number == 0) or (weight is None) != (depth == 0) or depth > len(path):
            return number
        if path and path[-1] == 0 and depth != len(path):
            return number
        path = path[:depth]
        if path:
            if path[-1] is None:
                return number
            path[-1] += 1
        if path and path[-1] > 6 or depth >= 5 or number >= 20 or name in names:
            return number
        names.append(name)
        path.append(None if leaf else 0)
    return number + 1 if path[-1] == 0 else None


def changed(draw, text):
    """The text with one row or sign put in, left out, exchanged or moved."""
    lines = text.split("\n")
    at = draw.randrange(len(lines))
    other = draw.randrange(len(lines))
    deeds = {
        "out": lambda: lines.pop(at) if len(lines) > 1 else None,
        "in": lambda: lines.insert(at, draw.choice(lines)),
        "new": lambda: lines.insert(at, draw.choice(["  1 leaf new 5", "    1 leaf new ?", "  2 row new", "", " "])),
        "twice": lambda: lines.insert(at, lines[at]),
        "turn": lambda: lines.insert(other, lines.pop(at)),
        "next": lambda: lines.insert(at + 1, lines.pop(at)),
        "deeper": lambda: lines.__setitem__(at, "  " + lines[at]),
        "less": lambda: lines.__setitem__(at, lines[at][2:]),
        "all deeper": lambda: lines.__setitem__(slice(at, other), ["  " + line for line in lines[at:other]]),
        "cut": lambda: lines.__delitem__(slice(at + 1, None)),
    }
    if draw.random() < 0.7:
        deeds[draw.choice(list(deeds))]()
        return "\n".join(lines)
    place = draw.randrange(len(text))
    sign = draw.choice(" \n0159?abrowleafbundle-+.A\t")
    deed = draw.choice(["in", "out", "exchanged"])
    return text[:place] + (sign if deed != "out" else "") + text[place + (deed != "in"):]


class ChangedTexts(ReadTest):
    def test_texts_that_were_changed(self):
        plans = 0
        for seed in range(4000):
            draw = random.Random(seed)
            text = written(fitting_plan(draw).work())
            for _ in range(draw.randint(1, 3)):
                text = changed(draw, text) or text
            row = first_none(text)
            if row is None:
                plans += 1
                self.assertEqual(written(read(text)), text)
            else:
                self.assert_none(text, row)
        self.assertGreater(plans, 400)

    def test_each_beginning(self):
        for text in (HOUSE, DEEP, rows(*twenty_rows())):
            for many in range(len(text)):
                row = first_none(text[:many])
                if row is None:
                    self.assertEqual(written(read(text[:many])), text[:many])
                else:
                    self.assert_none(text[:many], row)

    def test_each_sign_left_out_and_each_row_left_out(self):
        for text in (HOUSE, DEEP):
            lines = text.split("\n")
            texts = [text[:at] + text[at + 1:] for at in range(len(text))]
            texts += [rows(*lines[:at], *lines[at + 1:]) for at in range(len(lines))]
            texts += [rows(*lines[:at], lines[at + 1], lines[at], *lines[at + 2:]) for at in range(len(lines) - 1)]
            texts += [rows(*lines[:at], lines[at], *lines[at:]) for at in range(len(lines))]
            for each in texts:
                row = first_none(each)
                if row is None:
                    self.assertEqual(written(read(each)), each)
                else:
                    self.assert_none(each, row)


if __name__ == "__main__":
    unittest.main()
