"""Few tellings, rows of signs and hundredths: promises 8 and 9."""

import itertools
import random
import unittest
from fractions import Fraction

from howfar.errors import BadShares, BadSize
from howfar.runs import told
from howfar.showing import bar, few, percent
from tests.samples import house, odd_values, pair

NOTHING = (0, 1)
WHOLE = (1, 1)
TENTHS = [(0, 1), (1, 10), (1, 5), (3, 10), (2, 5), (1, 2), (3, 5), (7, 10), (4, 5), (9, 10), (1, 1)]

# What is no share at all: neither to be shown nor to be off by.
NO_SHARES = odd_values() + [
    [1, 2], [0, 1], (1,), (1, 2, 3), "12", "1/2", b"12", {1: 2}, ((1, 2),), (2, 4), (0, 2), (2, 2), (100, 100), (6, 4),
    (1, 0), (0, 0), (2, 0), (-1, 2), (1, -2), (-1, -2), (0, -1), (-1, 1), (True, 1), (1, True), (False, 1),
    (True, True), (None, 1), (1, None), ("1", 2), (1, "2"), ((), 1), (1, ()), ([1], 2), (1, [2]), Fraction(1, 2)]


class Few(unittest.TestCase):
    def assert_told(self, shares, off, numbers):
        chosen = few(shares, off)
        self.assertIs(type(chosen), list)
        self.assertEqual(chosen, numbers, (shares, off))

    def test_one_share(self):
        for share in (NOTHING, (1, 2), WHOLE):
            for off in (NOTHING, (1, 2), WHOLE, (5, 2)):
                self.assert_told([share], off, [0])

    def test_shares_alike(self):
        for share in (NOTHING, (1, 3), WHOLE):
            for off in (NOTHING, (1, 100), WHOLE):
                self.assert_told([share] * 5, off, [0])

    def test_each_one_that_rises_where_nothing_may_be_off(self):
        self.assert_told(TENTHS, NOTHING, list(range(11)))
        self.assert_told([NOTHING, NOTHING, (1, 9), (1, 9), (1, 8), WHOLE, WHOLE], NOTHING, [0, 2, 4, 5])

    def test_just_where_else_it_would_be_more(self):
        self.assert_told(TENTHS, (1, 10), [0, 2, 4, 6, 8, 10])
        self.assert_told(TENTHS, (1, 5), [0, 3, 6, 9])
        self.assert_told(TENTHS, (1, 2), [0, 6])
        self.assert_told(TENTHS, (11, 100), [0, 2, 4, 6, 8, 10])
        self.assert_told(TENTHS, (99, 1000), list(range(11)))

    def test_the_last_one_need_not_be_chosen(self):
        self.assert_told([NOTHING, (9, 10), WHOLE], (1, 10), [0, 1])
        self.assert_told([NOTHING, (9, 10), WHOLE], (9, 100), [0, 1, 2])

    def test_off_by_the_whole_and_more(self):
        for off in (WHOLE, (3, 2), (10**30, 1), (10**30 + 1, 10**30)):
            self.assert_told(TENTHS, off, [0])
        self.assert_told(TENTHS, (9, 10), [0, 10])
        self.assert_told([NOTHING, WHOLE], (10**30 - 1, 10**30), [0, 1])

    def test_it_begins_where_the_list_begins(self):
        self.assert_told([(1, 2), (3, 4), WHOLE], (1, 4), [0, 2])
        self.assert_told([WHOLE, WHOLE], NOTHING, [0])

    def test_shares_with_great_numbers(self):
        near = (10**40 - 1, 10**40)
        self.assert_told([NOTHING, near, WHOLE], NOTHING, [0, 1, 2])
        self.assert_told([NOTHING, near, WHOLE], (1, 10**40), [0, 1])

    def test_of_what_is_told_of_a_run(self):
        run = [("did", "ground", 1)] * 5 + [("again", "house")] + [("did", "ground", 1), ("did", "pipes", 2)] * 3
        self.assert_told(told(house(), run), (1, 10), [0, 3, 7, 10])

    def test_as_few_as_can_be(self):
        for seed in range(150):
            draw = random.Random(seed)
            fractions = sorted(Fraction(draw.randint(0, 12), 12) for _ in range(draw.randint(1, 8)))
            off = Fraction(draw.randint(0, 8), draw.choice([12, 15]))
            chosen = few([pair(each) for each in fractions], pair(off))
            self.assertTrue(self.keeps(fractions, off, chosen))
            others = range(1, len(fractions))
            for many in range(len(chosen) - 1):
                for numbers in itertools.combinations(others, many):
                    self.assertFalse(self.keeps(fractions, off, (0, *numbers)), (fractions, off, numbers))
            for place in chosen[1:]:
                shown = max(each for each in chosen if each < place)
                self.assertGreater(fractions[place], fractions[shown] + off)

    def keeps(self, fractions, off, chosen):
        """Whether no share is more than the one shown then by more than what may be off."""
        shown = [max(each for each in chosen if each <= place) for place in range(len(fractions))]
        return all(each <= fractions[number] + off for each, number in zip(fractions, shown))


class WrongFew(unittest.TestCase):
    def assert_none(self, shares, off):
        with self.subTest(shares=shares, off=off), self.assertRaises(BadShares):
            few(shares, off)

    def test_no_list(self):
        for shares in odd_values(list) + [tuple(TENTHS), (1, 2), iter(TENTHS), dict.fromkeys(TENTHS), "0", {}]:
            self.assert_none(shares, NOTHING)

    def test_an_empty_list(self):
        for off in (NOTHING, WHOLE, (3, 2), None):
            self.assert_none([], off)

    def test_no_share_in_the_list(self):
        for value in NO_SHARES:
            self.assert_none([value], WHOLE)
            self.assert_none([value, WHOLE], WHOLE)
            self.assert_none([NOTHING, value, WHOLE], WHOLE)
            self.assert_none([NOTHING, value], WHOLE)

    def test_more_than_the_whole_in_the_list(self):
        for value in ((2, 1), (3, 2), (10**30 + 1, 10**30)):
            self.assert_none([value], WHOLE)
            self.assert_none([NOTHING, value], WHOLE)
            self.assert_none([NOTHING, value], (5, 1))

    def test_a_list_that_falls(self):
        for shares in ([WHOLE, NOTHING], [(1, 2), (1, 3)], [NOTHING, WHOLE, (9, 10)], [NOTHING, (1, 3), (1, 4), WHOLE],
                       [(10**30 - 1, 10**30), (10**30 - 2, 10**30 - 1)]):
            for off in (NOTHING, WHOLE):
                self.assert_none(shares, off)

    def test_what_may_be_off_is_no_share(self):
        for off in NO_SHARES:
            self.assert_none([NOTHING], off)
            self.assert_none(TENTHS, off)
            self.assert_none(None, off)


class Bar(unittest.TestCase):
    def test_twenty_signs_where_the_number_is_left_out(self):
        self.assertEqual(bar(NOTHING), "....................")
        self.assertEqual(bar((1, 2)), "##########..........")
        self.assertEqual(bar(WHOLE), "####################")

    def test_so_many_signs(self):
        for many in (1, 2, 7, 20, 99, 100):
            self.assertEqual(bar(NOTHING, many), "." * many)
            self.assertEqual(bar(WHOLE, many), "#" * many)
        self.assertEqual(bar((1, 3), 9), "###......")
        self.assertEqual(bar(share=(2, 5), many=5), "##...")

    def test_rounded_down(self):
        self.assertEqual(bar((99, 100), 1), ".")
        self.assertEqual(bar((99, 100), 99), "#" * 98 + ".")
        self.assertEqual(bar((99, 100), 100), "#" * 99 + ".")
        self.assertEqual(bar((1, 101), 100), "." * 100)
        self.assertEqual(bar((2, 3), 4), "##..")
        self.assertEqual(bar((19, 20)), "#" * 19 + ".")
        self.assertEqual(bar((10**30 - 1, 10**30)), "#" * 19 + ".")

    def test_each_number_of_signs(self):
        for many in range(1, 101):
            for share in ((1, 7), (5, 6), (13, 20)):
                full = sum(1 for sign in range(1, many + 1) if Fraction(sign, many) <= Fraction(*share))
                self.assertEqual(bar(share, many), "#" * full + "." * (many - full))

    def test_what_is_told_is_a_text(self):
        self.assertIs(type(bar((1, 2))), str)
        self.assertIs(type(percent((1, 2))), str)


class Percent(unittest.TestCase):
    def test_hundredths(self):
        self.assertEqual(percent((7, 100)), "7 in 100")
        self.assertEqual(percent(NOTHING), "0 in 100")
        self.assertEqual(percent(WHOLE), "100 in 100")
        self.assertEqual(percent((1, 2)), "50 in 100")
        self.assertEqual(percent(share=(1, 20)), "5 in 100")

    def test_rounded_down(self):
        self.assertEqual(percent((2, 3)), "66 in 100")
        self.assertEqual(percent((1, 101)), "0 in 100")
        self.assertEqual(percent((1, 100)), "1 in 100")
        self.assertEqual(percent((199, 200)), "99 in 100")
        self.assertEqual(percent((10**400 - 1, 10**400)), "99 in 100")
        self.assertEqual(percent((57, 100)), "57 in 100")


class WrongShown(unittest.TestCase):
    beyond = NO_SHARES + [(2, 1), (3, 2), (101, 100), (4, 3), (10**30 + 1, 10**30), [NOTHING], TENTHS]

    def test_no_share_from_0_to_the_whole(self):
        for value in self.beyond:
            for show in (bar, percent, lambda share: bar(share, 1), lambda share: bar(share, 100)):
                with self.subTest(value=value), self.assertRaises(BadShares):
                    show(value)

    def test_so_many_signs_make_no_row(self):
        for many in [0, -1, 101, 10**30, "20", (20,), [20]] + odd_values(int):
            for share in (NOTHING, (1, 3), WHOLE):
                with self.subTest(many=many), self.assertRaises(BadSize):
                    bar(share, many)

    def test_the_share_goes_first(self):
        for value in self.beyond:
            for many in (0, 101, None, True, "20"):
                with self.subTest(value=value, many=many), self.assertRaises(BadShares):
                    bar(value, many)


class NothingChanged(unittest.TestCase):
    def test_what_was_handed_in(self):
        for shares in (list(TENTHS), [*TENTHS, NOTHING], [*TENTHS, None], [NOTHING, (2, 4)]):
            copy = list(shares)
            try:
                few(shares, (1, 4))
            except BadShares:
                pass
            self.assertEqual(shares, copy)

    def test_nothing_is_kept(self):
        shares = list(TENTHS)
        chosen = few(shares, (1, 4))
        shares.clear()
        self.assertEqual(chosen, few(TENTHS, (1, 4)))

    def test_what_is_told_is_the_askers_own(self):
        chosen = few(TENTHS, (1, 4))
        copy = list(chosen)
        chosen.clear()
        self.assertEqual(few(TENTHS, (1, 4)), copy)
        few([NOTHING], NOTHING).append(9)
        self.assertEqual(few([NOTHING], NOTHING), [0])


if __name__ == "__main__":
    unittest.main()
