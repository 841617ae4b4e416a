"""Two plans held against one another: promise 10."""

import itertools
import random
import unittest

from howfar.errors import Unlike
from howfar.plans import apart
from howfar.runs import became, far
from howfar.works import Bundle, Leaf, Row, Work
from tests.model import Node, fitting_plan
from tests.samples import crowd, house, leaves, nested, odd_values, shape

KNOWN = [("knows", "plaster", 10), ("knows", "paint", 2)]


def known_house():
    """The house with all steps known."""
    return became(house(), KNOWN)


def weighed(weights, elder=Row, names="abcdef", steps=10):
    """A work whose leaves have these weights."""
    return elder("x", [(weight, Leaf(name, steps)) for weight, name in zip(weights, names)])


class PlanTest(unittest.TestCase):
    def assert_apart(self, one, other, leaf):
        """Whether this is told of the plans, whichever of them goes first."""
        self.assertEqual(apart(one, other), leaf)
        self.assertEqual(apart(other, one), leaf)
        self.assertIsNone(apart(one, one))
        self.assertIsNone(apart(other, other))


class Alike(PlanTest):
    def assert_alike(self, one, other):
        self.assert_apart(one, other, None)

    def test_a_plan_and_itself(self):
        for plan in (known_house(), Leaf("a", 1), Leaf("a", 1000), nested(5), crowd(20), weighed([1, 100])):
            self.assertIsNone(apart(plan, plan))
            self.assertIsNone(apart(one=plan, other=plan))
        self.assert_alike(known_house(), known_house())

    def test_weights_so_many_times_as_much(self):
        for weights in ([1], [1, 2], [3, 1, 2], [1, 1, 1, 1, 1, 1]):
            for times in (1, 2, 7, 16):
                self.assert_alike(weighed(weights), weighed([weight * times for weight in weights]))
        self.assert_alike(weighed([1, 50]), weighed([2, 100]))
        inner = [(weight, Row("y", leaves("ab", weight))) for weight in (3, 6)]
        self.assert_alike(Row("x", [inner[0], (1, Leaf("c", 4))]), Row("x", [inner[1], (2, Leaf("c", 4))]))

    def test_parts_in_another_turn(self):
        parts = known_house().parts()
        for turned in itertools.permutations(parts):
            self.assert_alike(Row("house", list(turned)), known_house())
        self.assert_alike(Row("x", leaves("ab") + leaves("c", 9)), Row("x", leaves("c", 9) + leaves("ba")))

    def test_rows_and_bundles_and_their_names_do_not_count(self):
        self.assert_alike(weighed([3, 4]), weighed([3, 4], Bundle))
        self.assert_alike(Row("x", leaves("ab")), Bundle("other", leaves("ab")))
        self.assert_alike(Row("x", [(5, Row("y", leaves("ab")))]), Bundle("z", leaves("ab")))

    def test_all_leaves_in_one(self):
        plan = Row("x", [(1, Row("y", [(1, Leaf("a", 5)), (2, Leaf("b", 6))])), (3, Leaf("c", 7))])
        for elder in (Row, Bundle):
            self.assert_alike(plan, elder("z", [(1, Leaf("a", 5)), (2, Leaf("b", 6)), (9, Leaf("c", 7))]))
            self.assert_apart(plan, elder("z", [(1, Leaf("a", 5)), (2, Leaf("b", 6)), (8, Leaf("c", 7))]), "a")

    def test_one_leaf(self):
        for steps in (1, 5, 1000):
            self.assert_alike(Leaf("a", steps), Leaf("a", steps))
            for weight in (1, 100):
                self.assert_alike(Leaf("a", steps), Row("x", [(weight, Leaf("a", steps))]))
                self.assert_alike(Leaf("a", steps), Bundle("x", [(weight, Leaf("a", steps))]))
        self.assert_alike(nested(5), Leaf("leaf", 10))
        self.assert_alike(nested(5), nested(2))

    def test_great_weights_deep_down(self):
        def deep(weight):
            plan = Leaf("e", 1000)
            for elder, other in zip("vwxy", "abcd"):
                plan = Row(elder, [(100, plan), (weight, Leaf(other, 999))])
            return plan

        self.assert_alike(deep(99), deep(99))
        self.assert_apart(deep(99), deep(98), "a")


class Apart(PlanTest):
    def test_a_leaf_with_another_weight(self):
        self.assert_apart(weighed([1, 1]), weighed([1, 2]), "a")
        self.assert_apart(weighed([1, 1]), weighed([2, 1]), "a")
        self.assert_apart(weighed([99, 100]), weighed([100, 100]), "a")
        self.assert_apart(weighed([1, 1, 1, 1, 1, 1]), weighed([1, 1, 1, 1, 1, 2]), "a")

    def test_the_first_leaf_that_is_apart(self):
        self.assert_apart(weighed([4, 2, 2]), weighed([4, 1, 3]), "b")
        self.assert_apart(weighed([4, 2, 2]), weighed([4, 3, 1]), "b")
        self.assert_apart(weighed([1, 5, 2, 2]), weighed([1, 5, 1, 3]), "c")
        self.assert_apart(weighed([1, 2, 3]), weighed([3, 2, 1]), "a")

    def test_in_order_of_names_and_not_of_their_turn(self):
        self.assert_apart(weighed([4, 2, 2], names="cba"), weighed([4, 1, 3], names="cba"), "a")
        self.assert_apart(weighed([1, 2], names="ba"), weighed([2, 1], names="ba"), "a")
        for names in itertools.permutations(["b", "aa", "ab", "z"]):
            one, other = dict.fromkeys(names, 1), dict.fromkeys(names, 1)
            other["ab"], other["b"] = 2, 2
            one["z"], other["aa"] = 3, 1
            plans = [Row("x", [(weight, Leaf(name, 4)) for name, weight in each.items()]) for each in (one, other)]
            # Of 6 and 6: aa is worth 1 in both, ab 1 and 2, b 1 and 2, z 3 and 1.
            self.assert_apart(*plans, "ab")

    def test_a_longer_name_goes_behind_its_beginning(self):
        one = Row("x", [(1, Leaf("ab", 2)), (2, Leaf("a", 2))])
        self.assert_apart(one, Row("x", [(2, Leaf("ab", 2)), (1, Leaf("a", 2))]), "a")

    def test_within_works(self):
        plan = known_house()
        weight, walls = plan.parts()[1]
        parts = [plan.parts()[0], (weight, Row("walls", [(1, part) for _, part in walls.parts()])), plan.parts()[2]]
        self.assert_apart(plan, Row("house", parts), "bricks")
        parts = [plan.parts()[0], (weight + 1, walls), plan.parts()[2]]
        self.assert_apart(plan, Row("house", parts), "bricks")
        inside = Bundle("inside", [(2, Leaf("wires", 3)), (2, Leaf("pipes", 6)), (2, Leaf("paint", 2))])
        self.assert_apart(plan, Row("house", [*plan.parts()[:2], (3, inside)]), "paint")

    def test_the_same_tree_with_leaves_exchanged(self):
        one = Row("x", [(1, Row("y", leaves("ab"))), (1, Leaf("c", 10))])
        self.assert_apart(one, Row("x", [(1, Row("y", leaves("cb"))), (1, Leaf("a", 10))]), "a")
        self.assert_apart(one, Row("x", [(1, Row("y", leaves("ca"))), (1, Leaf("b", 10))]), "b")
        self.assert_apart(one, Row("x", [(1, Row("y", leaves("ba"))), (1, Leaf("c", 10))]), None)

    def test_what_is_told_is_a_leafs_name(self):
        self.assertIs(type(apart(weighed([1, 1]), weighed([1, 2]))), str)


class Refused(unittest.TestCase):
    def assert_unlike(self, one, other):
        for plans in ((one, other), (other, one)):
            with self.subTest(plans=plans), self.assertRaises(Unlike) as caught:
                apart(*plans)
            self.assertIs(type(caught.exception), Unlike)

    def test_other_leaves(self):
        self.assert_unlike(Leaf("a", 5), Leaf("b", 5))
        self.assert_unlike(Row("x", leaves("ab")), Row("x", leaves("abc")))
        self.assert_unlike(Row("x", leaves("ab")), Row("x", leaves("ac")))
        self.assert_unlike(Row("x", leaves("a")), Row("a", leaves("x")))
        self.assert_unlike(Leaf("x", 10), Row("x", leaves("a")))
        self.assert_unlike(known_house(), became(known_house(), [("found", "walls", 1, "roof", 2)]))

    def test_other_steps(self):
        for steps in (4, 6, 10, 1000):
            self.assert_unlike(Leaf("a", 5), Leaf("a", steps))
        self.assert_unlike(Row("x", leaves("ab")), Row("x", leaves("a") + leaves("b", steps=9)))
        # Each leaf's steps count, not only which steps there are.
        self.assert_unlike(Row("x", [(1, Leaf("a", 1)), (1, Leaf("b", 2))]),
                           Row("x", [(1, Leaf("a", 2)), (1, Leaf("b", 1))]))

    def test_steps_that_are_not_known(self):
        self.assert_unlike(Leaf("a"), Leaf("a"))
        self.assert_unlike(Leaf("a"), Leaf("a", 5))
        self.assert_unlike(house(), house())
        self.assert_unlike(house(), known_house())
        for run in (KNOWN[:1], KNOWN[1:]):
            plan = became(house(), run)
            self.assert_unlike(plan, plan)
            self.assert_unlike(plan, known_house())
        self.assert_unlike(Row("x", leaves("ab", steps=None)), Row("x", leaves("ab", steps=None)))

    def test_also_where_other_leaves_are_apart(self):
        self.assert_unlike(Row("x", [(1, Leaf("a", 5)), (2, Leaf("b", 5))]),
                           Row("x", [(2, Leaf("a", 5)), (1, Leaf("b", 6))]))

    def test_no_plan(self):
        class Other(Work):
            def __init__(self):
                pass

        for value in odd_values() + [Other(), Leaf, "leaf a 5", ("leaf", "a", 5, ()), [Leaf("a", 5)], (Leaf("a", 5),)]:
            self.assert_unlike(Leaf("a", 5), value)
            self.assert_unlike(known_house(), value)
        for value in [value for value in odd_values() if not isinstance(value, Work)]:
            self.assert_unlike(value, value)


class RunsOfBoth(unittest.TestCase):
    def leaves(self, model):
        return {leaf.name: leaf.steps for leaf in model.leaves()}

    def drawn(self, draw):
        """Two plans of the model with the same leaves."""
        while True:
            one = fitting_plan(draw)
            for leaf in one.leaves():
                leaf.steps = leaf.steps or draw.randint(1, 9)
            steps = self.leaves(one)
            names = draw.sample(list(steps), len(steps))
            if draw.random() < 0.5:
                # The same tree, with some weights changed.
                other = Node(one.kind, one.name, one.steps, one.parts)
                other.parts = [(draw.choice([weight, weight * 2, 1]), part) for weight, part in one.parts]
                other.parts = [(weight, part) for weight, part in other.parts if weight <= 100]
            elif len(names) <= 6:
                other = Node("bundle", "whole", None, [(draw.randint(1, 3), Node("leaf", name, steps[name]))
                                                      for name in names])
            else:
                continue
            if other.fits() and self.leaves(other) == steps:
                return one, other

    def test_one_step_of_each_leaf(self):
        alike = 0
        for seed in range(300):
            model, other = self.drawn(random.Random(seed))
            plans = model.work(), other.work()
            unlike = [name for name in sorted(self.leaves(model))
                      if len({far(plan, [("did", name, 1)]) for plan in plans}) == 2]
            self.assertEqual(apart(*plans), unlike[0] if unlike else None, seed)
            alike += not unlike
        # Both kinds must have been drawn often enough.
        self.assertTrue(50 < alike < 250, alike)

    def test_each_run_leaves_alike_plans_as_far(self):
        for seed in range(300):
            draw = random.Random(seed)
            model, other = self.drawn(draw)
            one, other = model.work(), other.work()
            if apart(one, other) is None:
                for _ in range(5):
                    run = [("did", leaf.name, draw.randint(1, leaf.steps)) for leaf in model.leaves()
                           if draw.random() < 0.7]
                    self.assertEqual(far(one, run), far(other, run))


class NothingChanged(unittest.TestCase):
    def test_what_was_handed_in(self):
        for one, other in ((known_house(), known_house()), (weighed([1, 1]), weighed([1, 2])), (house(), Leaf("a", 3))):
            before = shape(one), shape(other)
            try:
                apart(one, other)
            except Unlike:
                pass
            self.assertEqual((shape(one), shape(other)), before)

    def test_the_plans_are_not_kept(self):
        one, other = Leaf("a", 5), Leaf("a", 5)
        self.assertIsNone(apart(one, other))
        other.__init__("b", 5)
        with self.assertRaises(Unlike):
            apart(one, other)


if __name__ == "__main__":
    unittest.main()
