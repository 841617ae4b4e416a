"""Tallies of several hands: promise 7."""

import itertools
import random
import unittest

from howfar.errors import BadTallies
from howfar.hands import joined
from tests.samples import odd_values

TALLIES = [("ann", "pipes", 3), ("bob", "pipes", 4), ("ann", "bricks", 5), ("ann", "pipes", 6), ("bob", "wires", 0)]


class Joined(unittest.TestCase):
    def assert_told(self, tallies, pairs):
        """Whether just these pairs are told, in this order."""
        told = joined(tallies)
        self.assertIs(type(told), dict)
        self.assertEqual(list(told.items()), pairs, tallies)

    def test_no_tallies(self):
        self.assert_told([], [])

    def test_one_tally(self):
        for many in (0, 1, 999, 1000):
            self.assert_told([("ann", "pipes", many)], [("pipes", many)])

    def test_hands_together(self):
        self.assert_told([("ann", "pipes", 3), ("bob", "pipes", 4)], [("pipes", 7)])
        self.assert_told([("ann", "pipes", 1000), ("bob", "pipes", 1000), ("cy", "pipes", 1)], [("pipes", 2001)])

    def test_leaves_by_themselves_and_in_order(self):
        self.assert_told([("ann", "pipes", 3), ("ann", "bricks", 4)], [("bricks", 4), ("pipes", 3)])
        self.assert_told([("ann", name, 1) for name in ("b", "ab", "zz", "a", "z", "aa")],
                         [(name, 1) for name in ("a", "aa", "ab", "b", "z", "zz")])

    def test_the_greatest_counts(self):
        self.assert_told([("ann", "pipes", 3), ("ann", "pipes", 8)], [("pipes", 8)])
        self.assert_told([("ann", "pipes", 3), ("bob", "pipes", 9), ("ann", "pipes", 8)], [("pipes", 17)])

    def test_a_stale_one_behind_a_newer_one(self):
        self.assert_told([("ann", "pipes", 8), ("ann", "pipes", 3)], [("pipes", 8)])
        self.assert_told([("ann", "pipes", 8), ("ann", "pipes", 0)], [("pipes", 8)])

    def test_one_told_twice(self):
        self.assert_told([("ann", "pipes", 8)] * 2, [("pipes", 8)])
        self.assert_told(TALLIES * 3, list(joined(TALLIES).items()))

    def test_leaves_with_nothing_done_are_told_of(self):
        self.assert_told([("ann", "pipes", 0), ("bob", "pipes", 0), ("ann", "wires", 1)], [("pipes", 0), ("wires", 1)])

    def test_of_each_hand_and_leaf(self):
        self.assert_told(TALLIES, [("bricks", 5), ("pipes", 10), ("wires", 0)])

    def test_a_hand_may_be_called_as_a_leaf(self):
        self.assert_told([("a", "b", 1), ("b", "a", 2), ("a", "a", 3)], [("a", 5), ("b", 1)])
        # These would be one if their names were only put together.
        self.assert_told([("ab", "c", 1), ("a", "bc", 2)], [("bc", 2), ("c", 1)])

    def test_in_any_turn(self):
        pairs = list(joined(TALLIES).items())
        for tallies in itertools.permutations(TALLIES):
            self.assert_told(list(tallies), pairs)

    def test_many_tallies(self):
        for seed in range(200):
            draw = random.Random(seed)
            tallies = [(draw.choice(["ann", "bob", "cy"]), draw.choice(["p", "q", "longname"]), draw.randint(0, 1000))
                       for _ in range(draw.randint(0, 30))]
            pairs = []
            for leaf in sorted({leaf for _, leaf, _ in tallies}):
                hands = {hand for hand, each, _ in tallies if each == leaf}
                pairs.append((leaf, sum(max(many for hand, each, many in tallies if (hand, each) == (one, leaf))
                                        for one in hands)))
            self.assert_told(tallies, pairs)


class Wrong(unittest.TestCase):
    def assert_none(self, tallies):
        with self.subTest(tallies=tallies), self.assertRaises(BadTallies):
            joined(tallies)

    def assert_no_tally(self, tally):
        self.assert_none([tally])
        self.assert_none([*TALLIES, tally])
        self.assert_none([tally, *TALLIES])

    def test_no_list(self):
        for tallies in odd_values(list) + [tuple(TALLIES), ("ann", "pipes", 3), {0: TALLIES[0]}, iter(TALLIES), "",
                                           {("ann", "pipes"): 3}, dict.fromkeys(TALLIES)]:
            self.assert_none(tallies)

    def test_no_triple(self):
        for tally in odd_values() + [["ann", "pipes", 3], ("ann", "pipes"), ("ann", "pipes", 3, 3), ("ann", 3),
                                     "abc", (("ann", "pipes"), 3), ("ann", ("pipes", 3)), {"ann": ("pipes", 3)}]:
            self.assert_no_tally(tally)

    def test_names(self):
        for name in ["", "abcdefghi", "Ann", "a b", "a1", "a_b", "ann\n", ("ann",), ["ann"]] + odd_values(str):
            self.assert_no_tally((name, "pipes", 3))
            self.assert_no_tally(("ann", name, 3))
        self.assertEqual(joined([("abcdefgh", "hgfedcba", 3)]), {"hgfedcba": 3})

    def test_numbers(self):
        for many in [-1, 1001, 10**30, -(10**30), "3", (3,), [3]] + odd_values(int):
            self.assert_no_tally(("ann", "pipes", many))

    def test_turned_round(self):
        self.assert_no_tally((3, "pipes", "ann"))
        self.assert_no_tally(("ann", 3, "pipes"))


class NothingChanged(unittest.TestCase):
    def test_what_was_handed_in(self):
        for tallies in (list(TALLIES), [*TALLIES, None], [*TALLIES, ("ann", "pipes", 1001)]):
            copy = list(tallies)
            try:
                joined(tallies)
            except BadTallies:
                pass
            self.assertEqual(tallies, copy)

    def test_nothing_is_kept(self):
        tallies = list(TALLIES)
        told = joined(tallies)
        tallies.clear()
        self.assertEqual(told, joined(TALLIES))

    def test_what_is_told_is_the_askers_own(self):
        told = joined(TALLIES)
        copy = dict(told)
        told.clear()
        told["roof"] = 9
        self.assertEqual(joined(TALLIES), copy)
        self.assertEqual(joined([]), {})


if __name__ == "__main__":
    unittest.main()
