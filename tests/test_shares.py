"""Shares: promises 4 and 5, and of promise 1 what a share is."""

import unittest
from math import gcd

from howfar.runs import falls, far, told, worth
from howfar.works import Bundle, Leaf, Row
from tests.samples import house, leaves, nested

NOTHING = (0, 1)
WHOLE = (1, 1)


class Far(unittest.TestCase):
    def test_a_leaf(self):
        for steps, did, share in ((5, 3, (3, 5)), (6, 4, (2, 3)), (1000, 500, (1, 2)), (7, 7, WHOLE), (1, 1, WHOLE)):
            self.assertEqual(far(Leaf("a", steps), [("did", "a", did)]), share)
        self.assertEqual(far(Leaf("a", 5), []), NOTHING)

    def test_a_leaf_whose_steps_are_not_known(self):
        self.assertEqual(far(Leaf("a"), [("did", "a", 1000)]), NOTHING)
        self.assertEqual(far(Leaf("a"), [("did", "a", 6), ("knows", "a", 8)]), (3, 4))

    def test_weighed_parts(self):
        for elder in (Row, Bundle):
            plan = elder("x", [(1, Leaf("a", 4)), (3, Leaf("b", 6)), (4, Leaf("c"))])
            self.assertEqual(far(plan, []), NOTHING)
            # A quarter of 1 and a half of 3, of 8.
            run = [("did", "a", 1), ("did", "b", 3), ("did", "c", 9)]
            self.assertEqual(far(plan, run), (7, 32))
            self.assertEqual(far(plan, [*run, ("knows", "c", 9)]), (23, 32))
            self.assertEqual(far(plan, [("did", "a", 4), ("did", "b", 6), ("did", "c", 1), ("knows", "c", 1)]), WHOLE)

    def test_the_least_and_the_greatest_weight(self):
        plan = Row("x", [(1, Leaf("a", 1)), (100, Leaf("b", 1))])
        self.assertEqual(far(plan, [("did", "a", 1)]), (1, 101))
        self.assertEqual(far(plan, [("did", "b", 1)]), (100, 101))

    def test_one_part_and_six(self):
        self.assertEqual(far(Row("x", [(7, Leaf("a", 3))]), [("did", "a", 1)]), (1, 3))
        plan = Bundle("x", leaves("abcdef", weight=9, steps=2))
        self.assertEqual(far(plan, [("did", "a", 1), ("did", "f", 2)]), (1, 4))

    def test_works_within_works(self):
        run = [("did", "ground", 2), ("did", "bricks", 4), ("did", "pipes", 3), ("did", "wires", 1)]
        self.assertEqual(far(house(), run, "walls"), (3, 4))
        self.assertEqual(far(house(), run, "inside"), (1, 3))
        # 2 times 2/5, 4 times 3/4 and 3 times 1/3, of 9.
        for name in (None, "house"):
            self.assertEqual(far(house(), run, name), (8, 15))
        self.assertEqual(far(house(), run, name="bricks"), WHOLE)
        self.assertEqual(far(nested(5), [("did", "leaf", 4)]), (2, 5))

    def test_what_was_found_counts(self):
        plan = Row("x", [(1, Leaf("a", 2))])
        self.assertEqual(far(plan, [("did", "a", 1), ("found", "x", 3, "b", None)]), (1, 8))
        self.assertEqual(far(plan, [("did", "a", 1), ("found", "x", 3, "b", 3), ("did", "b", 2)]), (5, 8))

    def test_begun_anew(self):
        plan = Row("x", leaves("ab", steps=2))
        self.assertEqual(far(plan, [("did", "a", 2), ("did", "b", 1), ("again", "a")]), (1, 4))
        self.assertEqual(far(plan, [("did", "a", 2), ("did", "b", 1), ("again", "x")]), NOTHING)


class Worth(unittest.TestCase):
    def test_the_plan_is_the_whole(self):
        for plan in (Leaf("a"), house(), Bundle("x", leaves("abc"))):
            for run in (None, [], [("again", plan.name())]):
                self.assertEqual(worth(plan, plan.name(), run), WHOLE)

    def test_parts(self):
        told_worths = [worth(house(), name) for name in house().names()]
        self.assertEqual(told_worths, [WHOLE, (2, 9), (4, 9), (1, 3), (1, 9), (1, 3), (2, 15), (2, 15), (1, 15)])
        self.assertEqual(worth(plan=house(), name="plaster", run=None), (1, 9))

    def test_deep_down(self):
        self.assertEqual(worth(nested(5), "leaf"), WHOLE)
        self.assertEqual(worth(nested(5), "leaf", [("found", "b", 3, "new", 1), ("found", "d", 1, "newer", 1)]), (1, 8))

    def test_what_was_found_lessens_the_others(self):
        run = [("found", "inside", 5, "lamps", None)]
        self.assertEqual(worth(house(), "lamps", run), (1, 6))
        self.assertEqual(worth(house(), "pipes", run), (1, 15))
        self.assertEqual(worth(house(), "ground", run), (2, 9))

    def test_what_was_done_does_not_count(self):
        run = [("did", "pipes", 6), ("knows", "paint", 3), ("again", "walls")]
        for name in house().names():
            self.assertEqual(worth(house(), name, run), worth(house(), name))


class Told(unittest.TestCase):
    plan = Row("x", leaves("ab", steps=2))

    def test_it_begins_with_nothing(self):
        for plan in (self.plan, house(), Leaf("a"), Leaf("a", 1)):
            self.assertEqual(told(plan, []), [NOTHING])

    def test_without_falls_it_is_how_far_the_plan_is(self):
        run = [("did", "a", 1), ("did", "b", 2), ("did", "a", 1)]
        self.assertEqual(told(self.plan, run), [NOTHING, (1, 4), (3, 4), WHOLE])
        self.assertEqual(falls(self.plan, run), [])

    def test_it_stays_while_the_plan_falls(self):
        run = [("did", "a", 2), ("again", "a")]
        self.assertEqual(told(self.plan, run), [NOTHING, (1, 2), (1, 2)])
        self.assertEqual(falls(self.plan, run), [1])

    def test_it_stays_while_the_plan_stays(self):
        plan = Row("x", [(1, Leaf("a")), (1, Leaf("b", 4))])
        run = [("did", "a", 3), ("again", "b"), ("found", "x", 2, "c", None), ("did", "b", 1), ("did", "a", 1),
               ("again", "a"), ("knows", "a", 5), ("knows", "c", 5)]
        self.assertEqual(told(plan, run), [NOTHING] * 4 + [(1, 16)] * 5)
        self.assertEqual(falls(plan, run), [])

    def test_what_is_lacking_is_lessened_likewise(self):
        # Behind the fall half is lacking still; then 3/4 and 1/2 of what the plan lacked, then nothing of it.
        run = [("did", "a", 2), ("again", "a"), ("did", "a", 1), ("did", "b", 1), ("did", "b", 1), ("did", "a", 1)]
        self.assertEqual(told(self.plan, run), [NOTHING, (1, 2), (1, 2), (5, 8), (3, 4), (7, 8), WHOLE])
        self.assertEqual(falls(self.plan, run), [1])

    def test_behind_a_fall_that_is_not_to_nothing(self):
        # From 3/4 to 1/2 and then to 5/8: a quarter of the lacking half is done, so 3/16 are lacking of the whole.
        plan = Row("x", [(1, Leaf("a", 2)), (1, Leaf("b", 4))])
        run = [("did", "a", 2), ("did", "b", 2), ("again", "b"), ("did", "b", 1)]
        self.assertEqual(told(plan, run), [NOTHING, (1, 2), (3, 4), (3, 4), (13, 16)])
        self.assertEqual(falls(plan, run), [2])

    def test_a_finding_is_a_fall(self):
        run = [("did", "a", 2), ("found", "x", 2, "c", 4), ("did", "c", 2)]
        self.assertEqual([far(self.plan, run[:many]) for many in range(4)], [NOTHING, (1, 2), (1, 4), (1, 2)])
        self.assertEqual(told(self.plan, run), [NOTHING, (1, 2), (1, 2), (2, 3)])
        self.assertEqual(falls(self.plan, run), [1])

    def test_a_finding_where_nothing_was_done_is_no_fall(self):
        self.assertEqual(falls(self.plan, [("found", "x", 2, "c", 4), ("again", "x")]), [])

    def test_steps_come_to_be_known(self):
        plan = Row("x", [(1, Leaf("a")), (1, Leaf("b", 4))])
        run = [("did", "a", 3), ("knows", "a", 6)]
        self.assertEqual(told(plan, run), [NOTHING, NOTHING, (1, 4)])

    def test_once_the_whole_it_stays_the_whole(self):
        plan = Leaf("a", 2)
        run = [("did", "a", 2), ("again", "a"), ("did", "a", 1), ("did", "a", 1), ("again", "a")]
        self.assertEqual(told(plan, run), [NOTHING] + [WHOLE] * 5)
        self.assertEqual(falls(plan, run), [1, 4])

    def test_it_is_not_the_whole_by_coming_nearer_alone(self):
        run = [("did", "a", 9), ("again", "a")] * 20
        shares = told(Leaf("a", 10), run)
        self.assertEqual(shares[-1], (10**20 - 1, 10**20))

    def test_falls_are_numbered_from_0(self):
        run = [("did", "a", 1), ("again", "x"), ("did", "b", 1), ("again", "a"), ("again", "b")]
        self.assertEqual(falls(self.plan, run), [1, 4])


class Form(unittest.TestCase):
    def test_shares_are_pairs_of_numbers_without_a_common_part(self):
        run = [("did", "ground", 5), ("did", "pipes", 4), ("again", "house"), ("did", "wires", 3),
               ("found", "walls", 4, "roof", 2), ("did", "roof", 2), ("did", "ground", 1)]
        shares = told(house(), run)
        for name in [*house().names(), "roof"]:
            shares.append(far(house(), run, name))
            shares.append(worth(house(), name, run))
        for share in shares:
            self.assertIs(type(share), tuple)
            self.assertEqual([type(number) for number in share], [int, int])
            self.assertGreaterEqual(share[1], 1)
            self.assertEqual(gcd(*share), 1)
            self.assertTrue(0 <= share[0] <= share[1])


if __name__ == "__main__":
    unittest.main()
