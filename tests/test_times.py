"""Time left: promise 6."""

import unittest

from howfar.errors import BadPaces, BadRun
from howfar.times import left
from howfar.works import Bundle, Leaf, Row
from tests.samples import Same, Thing, house, leaves, nested, odd_values, shape

# House is a row of ground 5, walls (a row of bricks 4, plaster) and inside (a bundle of pipes 6, wires 3, paint).
KNOWN = [("knows", "plaster", 10), ("knows", "paint", 2)]
PACES = {"ground": (1, 2), "bricks": (10, 100), "plaster": (0, 3), "pipes": (2, 3), "wires": (1, 7), "paint": (6, 6)}


class Twin(Same):
    """A value that holds itself for equal to anything and is found where the name a stands."""

    def __hash__(self):
        return hash("a")


class TimeLeft(unittest.TestCase):
    def test_a_leaf(self):
        self.assertEqual(left(Leaf("a", 5), [], {"a": (2, 3)}), (10, 15))
        self.assertEqual(left(Leaf("a", 5), [("did", "a", 2)], {"a": (2, 3)}), (6, 9))
        self.assertEqual(left(Leaf("a", 1), [], {"a": (7, 7)}), (7, 7))

    def test_a_leaf_done_wholly(self):
        self.assertEqual(left(Leaf("a", 5), [("did", "a", 5)], {"a": (2, 3)}), (0, 0))
        self.assertEqual(left(Leaf("a", 5), [("did", "a", 3), ("did", "a", 2)], {"a": (1000, 1000)}), (0, 0))

    def test_ticks_0_and_1000(self):
        for ticks in ((0, 0), (0, 1000), (1000, 1000), (0, 1), (999, 1000)):
            self.assertEqual(left(Leaf("a", 1000), [], {"a": ticks}), (1000 * ticks[0], 1000 * ticks[1]))

    def test_a_row_is_its_parts_together(self):
        plan = Row("x", [(9, Leaf("a", 5)), (1, Leaf("b", 4)), (1, Leaf("c", 3))])
        paces = {"a": (1, 2), "b": (10, 11), "c": (0, 100)}
        self.assertEqual(left(plan, [], paces), (45, 354))
        self.assertEqual(left(plan, [("did", "b", 4), ("did", "c", 2)], paces), (5, 110))

    def test_a_bundle_is_the_greatest_of_its_parts(self):
        plan = Bundle("x", [(9, Leaf("a", 5)), (1, Leaf("b", 4)), (1, Leaf("c", 3))])
        paces = {"a": (1, 2), "b": (10, 11), "c": (0, 100)}
        self.assertEqual(left(plan, [], paces), (40, 300))
        # Least and greatest come of other parts each.
        self.assertEqual(left(plan, [("did", "b", 1), ("did", "c", 2)], paces), (30, 100))
        self.assertEqual(left(plan, [("did", "b", 4), ("did", "c", 3)], paces), (5, 10))

    def test_bundles_within_rows(self):
        # 5 and 40 and 0 and the greatest of 12, 3 and 12; 10 and 400 and 30 and the greatest of 18, 21 and 12.
        self.assertEqual(left(house(), KNOWN, PACES), (57, 461))
        self.assertEqual(left(house(), [*KNOWN, ("did", "pipes", 6), ("did", "bricks", 4)], PACES), (17, 61))

    def test_rows_within_bundles(self):
        plan = Bundle("x", [(1, Row("y", leaves("ab", steps=2))), (1, Row("z", leaves("cd", steps=3)))])
        paces = {"a": (1, 9), "b": (4, 9), "c": (2, 3), "d": (1, 1)}
        self.assertEqual(left(plan, [], paces), (10, 36))
        self.assertEqual(left(plan, [("did", "b", 1)], paces), (9, 27))
        self.assertEqual(left(plan, [("did", "a", 2), ("did", "b", 2)], paces), (9, 12))

    def test_weights_do_not_count(self):
        for weight in (1, 100):
            self.assertEqual(left(Row("x", leaves("ab", weight)), [], {"a": (1, 1), "b": (2, 2)}), (30, 30))

    def test_deep_down(self):
        self.assertEqual(left(nested(5), [("did", "leaf", 4)], {"leaf": (3, 5)}), (18, 30))

    def test_steps_that_are_not_known(self):
        self.assertIsNone(left(Leaf("a"), [], {"a": (0, 0)}))
        self.assertIsNone(left(Leaf("a"), [("did", "a", 1000)], {"a": (1, 2)}))
        self.assertIsNone(left(house(), [], PACES))
        self.assertIsNone(left(house(), KNOWN[:1], PACES))
        self.assertIsNone(left(house(), KNOWN[1:], PACES))
        self.assertIsNone(left(Bundle("x", [(1, Leaf("a", 9)), (1, Leaf("b"))]), [], {"a": (1, 1), "b": (0, 0)}))

    def test_steps_that_come_to_be_known(self):
        run = [("did", "a", 3), ("knows", "a", 10)]
        self.assertEqual(left(Leaf("a"), run, {"a": (1, 2)}), (7, 14))
        self.assertEqual(left(Leaf("a"), [*run, ("did", "a", 7)], {"a": (1, 2)}), (0, 0))

    def test_begun_anew(self):
        run = [*KNOWN, ("did", "ground", 5), ("did", "pipes", 6), ("again", "house")]
        self.assertEqual(left(house(), run, PACES), left(house(), KNOWN, PACES))

    def test_found(self):
        run = [("did", "a", 5), ("found", "x", 1, "c", 4)]
        paces = {"a": (1, 2), "b": (1, 1), "c": (3, 4)}
        self.assertEqual(left(Row("x", leaves("ab")), run, paces), (27, 36))
        self.assertEqual(left(Bundle("x", leaves("ab")), run, paces), (12, 16))
        self.assertIsNone(left(Row("x", leaves("ab")), [("found", "x", 1, "c", None)], paces))

    def test_what_is_told_is_a_pair_of_numbers(self):
        for plan in (Leaf("a", 5), Row("x", leaves("a")), Bundle("x", leaves("a"))):
            told = left(plan, [], {"a": (2, 3)})
            self.assertIs(type(told), tuple)
            self.assertEqual([type(number) for number in told], [int, int])


class WrongPaces(unittest.TestCase):
    def assert_none(self, plan, run, paces):
        with self.subTest(paces=paces), self.assertRaises(BadPaces):
            left(plan, run, paces)

    def test_no_dict(self):
        for paces in odd_values(dict) + [[("a", (1, 2))], [("a", 1, 2)], (("a", (1, 2)),), (1, 2), ["a"], "a", {"a"}]:
            self.assert_none(Leaf("a", 5), [], paces)

    def test_a_name_too_many(self):
        for name in ["b", "x", "A", ""] + odd_values(str, list, dict, set):
            self.assert_none(Leaf("a", 5), [], {"a": (1, 2), name: (1, 2)})
        for name in ("house", "walls", "inside", "roof"):
            self.assert_none(house(), KNOWN, {**PACES, name: (1, 2)})

    def test_a_name_that_lacks(self):
        self.assert_none(Leaf("a", 5), [], {})
        for name in PACES:
            self.assert_none(house(), KNOWN, {each: PACES[each] for each in PACES if each != name})
        self.assert_none(Leaf("a", 5), [("did", "a", 5)], {})

    def test_another_name(self):
        for name in ["b", "A", "a ", ""] + odd_values(str, list, dict, set):
            self.assert_none(Leaf("a", 5), [], {name: (1, 2)})
        self.assert_none(house(), KNOWN, {**{name: PACES[name] for name in list(PACES)[1:]}, "house": (1, 2)})

    def test_what_holds_itself_for_equal_to_a_name(self):
        self.assert_none(Leaf("a", 5), [], {Twin(): (1, 2)})
        self.assert_none(Row("x", leaves("ab")), [], {"b": (1, 2), Twin(): (1, 2)})

    def test_no_pair(self):
        for pace in odd_values() + [[1, 2], (1,), (1, 2, 3), "12", b"12", {1: 2}, 1, ((1, 2),), range(1, 3)]:
            self.assert_none(Leaf("a", 5), [], {"a": pace})
            self.assert_none(Row("x", leaves("ab")), [], {"a": (1, 2), "b": pace})

    def test_a_pair_turned_round(self):
        for pace in ((1, 0), (3, 2), (1000, 0), (1000, 999)):
            self.assert_none(Leaf("a", 5), [], {"a": pace})

    def test_beyond_the_bounds(self):
        for pace in ((-1, 0), (-1, 5), (0, 1001), (1001, 1001), (-1, -1), (0, 10**30), (-(10**30), 0)):
            self.assert_none(Leaf("a", 5), [], {"a": pace})

    def test_no_numbers(self):
        for value in odd_values(int) + ["1", (1,)]:
            self.assert_none(Leaf("a", 5), [], {"a": (value, 1)})
            self.assert_none(Leaf("a", 5), [], {"a": (0, value)})
            self.assert_none(Leaf("a", 5), [], {"a": (value, value)})

    def test_leaves_are_those_behind_the_run(self):
        plan, run, paces = Row("x", leaves("ab")), [("found", "x", 1, "c", 4)], {"a": (1, 1), "b": (1, 1)}
        self.assertEqual(left(plan, [], paces), (20, 20))
        self.assert_none(plan, run, paces)
        self.assert_none(plan, [], {**paces, "c": (1, 1)})
        self.assertEqual(left(plan, run, {"c": (1, 1), **paces}), (24, 24))

    def test_also_where_steps_are_not_known(self):
        for paces in (None, {}, {"b": (1, 1)}, {"a": (2, 1)}, {"a": (0, 1001)}, {"a": (1, 1), "b": (1, 1)}):
            self.assert_none(Leaf("a"), [], paces)


class WrongRuns(unittest.TestCase):
    def test_the_run_goes_first(self):
        for paces in (PACES, {}, None, {"ground": (2, 1)}):
            for run, place in ((None, 0), ((), 0), ([None], 0), ([("did", "ground", 5), ("did", "ground", 1)], 1),
                               ([*KNOWN, ("found", "house", 1, "house", 1)], 2)):
                with self.subTest(run=run, paces=paces), self.assertRaises(BadRun) as caught:
                    left(house(), run, paces)
                self.assertEqual(caught.exception.place, place)


class NothingChanged(unittest.TestCase):
    def test_what_was_handed_in(self):
        plan, run, paces = house(), list(KNOWN), dict(PACES)
        before = shape(plan)
        left(plan, run, paces)
        for wrong in ({**PACES, "roof": (1, 1)}, {**PACES, "paint": (2, 1)}):
            copy = dict(wrong)
            with self.assertRaises(BadPaces):
                left(plan, run, wrong)
            self.assertEqual(wrong, copy)
        self.assertEqual((shape(plan), run, list(paces.items())), (before, KNOWN, list(PACES.items())))

    def test_nothing_is_kept(self):
        plan, run, paces = house(), list(KNOWN), dict(PACES)
        told = left(plan, run, paces)
        run.clear()
        paces.clear()
        self.assertEqual(left(plan, KNOWN, PACES), told)

    def test_other_things_as_keys_stay(self):
        thing = Thing()
        paces = {"a": (1, 2), thing: (1, 2)}
        with self.assertRaises(BadPaces):
            left(Leaf("a", 5), [], paces)
        self.assertEqual(list(paces), ["a", thing])


if __name__ == "__main__":
    unittest.main()
