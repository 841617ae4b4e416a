"""Works and plans: promise 2, and of promise 1 what works keep of it."""

import unittest

from howfar.errors import BadWork
from howfar.works import Bundle, Leaf, Row, Work
from tests.samples import crowd, house, leaves, nested, odd_values, shape

ELDERS = (Row, Bundle)


class Told(unittest.TestCase):
    def test_a_leaf(self):
        leaf = Leaf("sand", 12)
        self.assertEqual((leaf.name(), leaf.parts(), leaf.steps(), leaf.names()), ("sand", [], 12, ["sand"]))

    def test_a_leaf_whose_steps_are_not_known(self):
        for leaf in (Leaf("sand"), Leaf("sand", None), Leaf(name="sand", steps=None)):
            self.assertEqual((leaf.name(), leaf.parts(), leaf.steps(), leaf.names()), ("sand", [], None, ["sand"]))

    def test_rows_and_bundles(self):
        for elder in ELDERS:
            with self.subTest(elder=elder):
                work = elder(name="yard", parts=[(3, Leaf("sand", 12)), (100, Leaf("tar"))])
                self.assertEqual(work.name(), "yard")
                self.assertIs(work.steps(), None)
                self.assertEqual(work.names(), ["yard", "sand", "tar"])
                self.assertEqual([(weight, shape(part)) for weight, part in work.parts()],
                                 [(3, ("leaf", "sand", 12, [])), (100, ("leaf", "tar", None, []))])

    def test_kinds(self):
        for work in (Leaf("a"), Row("b", leaves("a")), Bundle("c", leaves("a"))):
            self.assertIsInstance(work, Work)
        self.assertEqual([kind.__bases__ for kind in (Leaf, Row, Bundle)], [(Work,)] * 3)

    def test_kinds_of_parts(self):
        self.assertEqual(shape(house()), ("row", "house", None, [
            (2, ("leaf", "ground", 5, [])),
            (4, ("row", "walls", None, [(3, ("leaf", "bricks", 4, [])), (1, ("leaf", "plaster", None, []))])),
            (3, ("bundle", "inside", None, [(2, ("leaf", "pipes", 6, [])), (2, ("leaf", "wires", 3, [])),
                                            (1, ("leaf", "paint", None, []))]))]))

    def test_parts_are_tuples_in_a_list(self):
        parts = house().parts()
        self.assertIs(type(parts), list)
        self.assertEqual([type(part) for part in parts], [tuple] * 3)

    def test_names_tell_each_elder_ahead_of_its_parts(self):
        self.assertEqual(house().names(), ["house", "ground", "walls", "bricks", "plaster",
                                           "inside", "pipes", "wires", "paint"])

    def test_work_is_not_made_itself(self):
        for given in ((), ("a",), ("a", 5)):
            with self.assertRaises(BadWork):
                Work(*given)


class Names(unittest.TestCase):
    good = ["a", "z", "az", "abcdefgh", "zzzzzzzz"]
    bad = ["", "abcdefghi", "A", "aB", "a b", " a", "a ", "a1", "1", "a_b", "_", "a-b", "a\n", "`", "{", "a.b", "?"]

    def test_one_to_eight_small_letters(self):
        for name in self.good:
            with self.subTest(name=name):
                self.assertEqual(Leaf(name).name(), name)
                for elder in ELDERS:
                    self.assertEqual(elder(name, leaves(["b"])).name(), name)

    def test_other_texts_and_kinds_are_refused(self):
        for name in self.bad + odd_values(str):
            with self.subTest(name=name):
                with self.assertRaises(BadWork):
                    Leaf(name, 5)
                for elder in ELDERS:
                    with self.assertRaises(BadWork):
                        elder(name, leaves("b"))


class Steps(unittest.TestCase):
    def test_from_1_to_1000_or_none(self):
        for steps in (1, 2, 999, 1000, None):
            self.assertEqual(Leaf("a", steps).steps(), steps)

    def test_others_are_refused(self):
        for steps in [0, -1, 1001, 10**30] + odd_values(int, type(None)):
            with self.subTest(steps=steps), self.assertRaises(BadWork):
                Leaf("a", steps)


class Parts(unittest.TestCase):
    def assert_refused(self, parts):
        for elder in ELDERS:
            with self.subTest(elder=elder, parts=parts), self.assertRaises(BadWork):
                elder("x", parts)

    def test_one_to_six(self):
        for many in (1, 2, 6):
            for elder in ELDERS:
                self.assertEqual(elder("x", leaves("abcdefg"[:many])).names(), ["x", *"abcdefg"[:many]])

    def test_none_and_seven_are_refused(self):
        self.assert_refused([])
        self.assert_refused(leaves("abcdefg"))

    def test_no_list_is_refused(self):
        for parts in odd_values(list) + [tuple(leaves("a")), {1: Leaf("a")}, Leaf("a"), iter(leaves("a"))]:
            self.assert_refused(parts)

    def test_no_pair_is_refused(self):
        leaf = Leaf("a")
        for part in odd_values() + [[1, leaf], (1,), (leaf,), (1, leaf, 1), (leaf, 1), leaf, {1: leaf}]:
            self.assert_refused([part])
            self.assert_refused([(1, Leaf("b")), part])

    def test_weights_from_1_to_100(self):
        for weight in (1, 2, 99, 100):
            for elder in ELDERS:
                self.assertEqual(elder("x", leaves("a", weight)).parts()[0][0], weight)

    def test_other_weights_are_refused(self):
        for weight in [0, -1, 101, 10**30] + odd_values(int):
            self.assert_refused([(weight, Leaf("a"))])

    def test_no_work_is_refused(self):
        class Other(Work):
            def __init__(self):
                pass

        for work in [value for value in odd_values() if not isinstance(value, Work)] + [Other(), Leaf, Work]:
            self.assert_refused([(1, work)])


class Plans(unittest.TestCase):
    def test_no_two_of_one_name(self):
        deep = Row("deep", [(1, Bundle("low", leaves("a")))])
        for parts in (leaves("aa"), leaves("x"), leaves("bx"), [(1, deep), (1, Leaf("a"))], [(1, deep), (1, deep)],
                      [(1, Row("x", leaves("a")))], [(1, Row("y", leaves("a"))), (2, Bundle("z", leaves("a")))]):
            for elder in ELDERS:
                with self.subTest(parts=parts), self.assertRaises(BadWork):
                    elder("x", parts)
        with self.assertRaises(BadWork):
            Row("low", [(1, deep)])

    def test_one_leaf_may_be_handed_into_several_works(self):
        leaf = Leaf("a")
        self.assertEqual([Row("x", [(1, leaf)]).names(), Bundle("y", [(1, leaf)]).names()], [["x", "a"], ["y", "a"]])

    def test_at_most_20_works(self):
        self.assertEqual(len(crowd(20).names()), 20)
        with self.assertRaises(BadWork):
            crowd(21)
        with self.assertRaises(BadWork):
            Bundle("all", [(1, crowd(20))])
        self.assertEqual(len(Bundle("all", [(1, crowd(19))]).names()), 20)

    def test_at_most_5_within_one_another(self):
        self.assertEqual(nested(5).names(), ["d", "c", "b", "a", "leaf"])
        with self.assertRaises(BadWork):
            nested(6)
        for elder in ELDERS:
            with self.assertRaises(BadWork):
                elder("e", [(1, Leaf("f")), (1, nested(5))])
            self.assertEqual(len(elder("e", [(1, Leaf("f")), (1, nested(4))]).names()), 6)


class HandedIn(unittest.TestCase):
    def test_parts_stay_as_they_were(self):
        for elder in ELDERS:
            leaf = Leaf("a", 5)
            parts = [(2, leaf), (3, Row("b", leaves("c")))]
            before = list(parts)
            elder("x", parts)
            with self.assertRaises(BadWork):
                elder("a", parts)
            self.assertEqual(parts, before)
            self.assertEqual(shape(leaf), ("leaf", "a", 5, []))

    def test_changing_parts_later_changes_nothing(self):
        for elder in ELDERS:
            parts = leaves("ab")
            work = elder("x", parts)
            before = shape(work)
            parts.append((1, Leaf("c")))
            parts[0] = (9, Leaf("d"))
            self.assertEqual(shape(work), before)
            parts.clear()
            self.assertEqual(shape(work), before)

    def test_works_handed_in_are_not_kept(self):
        leaf = Leaf("a", 5)
        work = Row("x", [(1, leaf)])
        leaf.__init__("b", 6)
        self.assertEqual(work.names(), ["x", "a"])
        self.assertIsNot(work.parts()[0][1], leaf)

    def test_changing_what_is_told_changes_nothing(self):
        for work in (Leaf("a", 5), house(), Bundle("x", [(1, Row("y", leaves("ab")))])):
            before, names = shape(work), work.names()
            work.parts().append((1, Leaf("z")))
            work.parts().clear()
            work.names().clear()
            work.names().append("z")
            for _, part in work.parts():
                part.parts().clear()
                part.__init__("other", 3) if isinstance(part, Leaf) else None
            self.assertEqual(shape(work), before)
            self.assertEqual(work.names(), names)

    def test_works_of_one_shape_share_nothing(self):
        one, other = house(), house()
        one.parts().clear()
        self.assertEqual(shape(one), shape(other))
        self.assertIsNot(one.parts(), one.parts())
        self.assertIsNot(one.names(), one.names())
        self.assertIsNot(Leaf("a").parts(), Leaf("a").parts())


if __name__ == "__main__":
    unittest.main()
