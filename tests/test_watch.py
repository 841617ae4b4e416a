"""The watch: its paragraph of the interface, over promises 3, 4, 5 and 9."""

import copy
import random
import unittest
from fractions import Fraction

from howfar.errors import BadName, BadRun, BadSize, NoDeed
from howfar.runs import became, falls, far, told
from howfar.showing import bar
from howfar.texts import read, written
from howfar.watch import Watch
from howfar.works import Bundle, Leaf, Row
from tests.model import drawn_telling, fitting_plan
from tests.samples import crowd, house, leaves, nested, odd_values, pair, shape

NOTHING = (0, 1)
WHOLE = (1, 1)
RUN = [("did", "ground", 2), ("did", "plaster", 3), ("knows", "plaster", 4), ("again", "walls"), ("did", "bricks", 1),
       ("found", "walls", 4, "roof", None), ("did", "roof", 5), ("did", "pipes", 6), ("knows", "roof", 8),
       ("again", "house"), ("did", "ground", 5)]


def told_of(plan, run):
    """A watch of the plan that was told the run."""
    watch = Watch(plan)
    for telling in run:
        watch.tell(telling)
    return watch


class WatchTest(unittest.TestCase):
    def assert_watched(self, watch, plan, run):
        """Whether the watch tells just what is told of the plan's run."""
        self.assertEqual(watch.run(), run)
        self.assertEqual(watch.told(), told(plan, run)[-1])
        self.assertEqual(watch.far(), far(plan, run))
        self.assertEqual(watch.bar(), bar(watch.told()))
        for name in became(plan, run).names():
            self.assertEqual(watch.far(name), far(plan, run, name), name)
        for word in ("nobody", "House"):
            with self.assertRaises(BadName):
                watch.far(word)

    def assert_refused(self, watch, telling, place):
        """Whether the telling is refused and nothing is changed."""
        before = watch.run(), watch.told(), watch.far(), watch.bar()
        with self.subTest(telling=telling), self.assertRaises(BadRun) as caught:
            watch.tell(telling)
        self.assertIs(type(caught.exception), BadRun)
        self.assertEqual(caught.exception.place, place)
        self.assertEqual((watch.run(), watch.told(), watch.far(), watch.bar()), before)


class Telling(WatchTest):
    def test_at_first(self):
        for plan in (house(), Leaf("a"), Leaf("a", 1), Bundle("x", leaves("ab")), nested(5), crowd(20)):
            watch = Watch(plan=plan)
            self.assert_watched(watch, plan, [])
            self.assertEqual((watch.told(), watch.far(), watch.run()), (NOTHING, NOTHING, []))
            self.assertEqual(watch.bar(), "." * 20)

    def test_behind_each_telling(self):
        watch = Watch(house())
        shares = told(house(), RUN)
        for many, telling in enumerate(RUN):
            self.assertEqual(watch.tell(telling), shares[many + 1])
            self.assert_watched(watch, house(), RUN[:many + 1])
        self.assertEqual(falls(house(), RUN), [3, 5, 9])

    def test_what_is_told_comes_nearer_behind_a_fall(self):
        watch = Watch(Row("x", leaves("ab", steps=2)))
        self.assertEqual(watch.tell(("did", "a", 2)), (1, 2))
        self.assertEqual(watch.tell(telling=("again", "a")), (1, 2))
        self.assertEqual((watch.far(), watch.told()), (NOTHING, (1, 2)))
        self.assertEqual(watch.tell(("did", "a", 1)), (5, 8))
        self.assertEqual((watch.far(), watch.far("a"), watch.far(name="b")), ((1, 4), (1, 2), NOTHING))

    def test_once_the_whole_it_stays_the_whole(self):
        watch = told_of(Leaf("a", 2), [("did", "a", 2), ("again", "a")])
        self.assertEqual((watch.told(), watch.far(), watch.bar(3)), (WHOLE, NOTHING, "###"))
        self.assertEqual(watch.tell(("did", "a", 1)), WHOLE)

    def test_steps_come_to_be_known(self):
        watch = told_of(Leaf("a"), [("did", "a", 3)])
        self.assertEqual(watch.told(), NOTHING)
        self.assertEqual(watch.tell(("knows", "a", 6)), (1, 2))
        self.assert_refused(watch, ("knows", "a", 6), 2)

    def test_none_is_the_plan(self):
        watch = told_of(house(), RUN[:1])
        self.assertEqual(watch.far(), watch.far("house"))
        self.assertEqual(watch.far(None), watch.far("house"))

    def test_what_is_told_is_a_share(self):
        watch = Watch(house())
        for share in [watch.tell(telling) for telling in RUN] + [watch.told(), watch.far(), watch.undo()]:
            self.assertIs(type(share), tuple)
            self.assertEqual([type(number) for number in share], [int, int])
            self.assertEqual(pair(Fraction(*share)), share)

    def test_a_long_run(self):
        plan = Leaf("a", 10)
        watch = told_of(plan, [("did", "a", 5), ("again", "a")] * 150)
        self.assertEqual(watch.told(), (2**150 - 1, 2**150))
        self.assertEqual(watch.bar(), "#" * 19 + ".")
        self.assertEqual(watch.run(), [("did", "a", 5), ("again", "a")] * 150)


class Refusals(WatchTest):
    def test_what_is_no_telling(self):
        for many in (0, 1, 5, len(RUN)):
            watch = told_of(house(), RUN[:many])
            for telling in odd_values() + [["did", "pipes", 1], [("did", "pipes", 1)], ("did", "pipes"), "did pipes 1",
                                           ("did", "pipes", 1, 1), ("again", "house", 1), ("does", "pipes", 1),
                                           ("again",), ("found", "house", 1, "new"), ("Again", "house")]:
                self.assert_refused(watch, telling, many)
            self.assert_watched(watch, house(), RUN[:many])

    def test_what_cannot_be_told(self):
        watch = told_of(house(), RUN[:2])
        for telling in [("did", "ground", 4), ("did", "house", 1), ("did", "nobody", 1), ("knows", "plaster", 2),
                        ("knows", "ground", 5), ("knows", "walls", 5), ("found", "walls", 1, "pipes", 2),
                        ("found", "ground", 1, "new", 2), ("found", "nobody", 1, "new", 2), ("again", "nobody"),
                        ("did", "roof", 1), ("again", "roof")]:
            self.assert_refused(watch, telling, 2)
        self.assert_watched(watch, house(), RUN[:2])

    def test_beyond_the_bounds(self):
        watch = told_of(house(), RUN[:1])
        for number in [0, -1, 1001, 10**30] + odd_values(int, type(None)):
            for telling in [("did", "plaster", number), ("knows", "plaster", number),
                            ("found", "house", 1, "new", number)]:
                self.assert_refused(watch, telling, 1)
        for weight in [0, -1, 101] + odd_values(int):
            self.assert_refused(watch, ("found", "house", weight, "new", 2), 1)
        for name in ["", "abcdefghi", "New", "a b"] + odd_values(str):
            for telling in [("did", name, 1), ("knows", name, 1), ("again", name), ("found", name, 1, "new", 1),
                            ("found", "house", 1, name, 1)]:
                self.assert_refused(watch, telling, 1)
        self.assert_refused(watch, ("did", "plaster", None), 1)
        self.assert_watched(watch, house(), RUN[:1])

    def test_parts_and_works_too_many(self):
        watch = told_of(crowd(19), [("found", "bundlea", 1, "new", 1)])
        self.assert_refused(watch, ("found", "crowd", 1, "newer", 1), 1)
        watch.undo()
        self.assertEqual(watch.tell(("found", "crowd", 1, "newer", 1)), NOTHING)
        watch = told_of(Row("x", leaves("abcde")), [("found", "x", 1, "f", 1)])
        self.assert_refused(watch, ("found", "x", 1, "g", 1), 1)
        watch.undo()
        self.assertEqual(watch.tell(("found", "x", 1, "g", 1)), NOTHING)

    def test_how_many_tellings_there_were(self):
        watch = Watch(Leaf("a", 3))
        self.assert_refused(watch, ("did", "a", 4), 0)
        self.assert_refused(watch, ("did", "a", 4), 0)
        watch.tell(("did", "a", 1))
        self.assert_refused(watch, ("did", "a", 3), 1)
        watch.tell(("did", "a", 1))
        self.assert_refused(watch, ("did", "a", 2), 2)
        watch.undo()
        self.assert_refused(watch, ("did", "a", 3), 1)
        watch.undo()
        self.assert_refused(watch, None, 0)

    def test_no_works_name(self):
        watch = told_of(house(), RUN)
        for name in ["nobody", "House", ""] + odd_values(str, type(None)):
            with self.subTest(name=name), self.assertRaises(BadName) as caught:
                watch.far(name)
            self.assertIs(type(caught.exception), BadName)
        self.assert_watched(watch, house(), RUN)

    def test_so_many_signs_make_no_row(self):
        for watch in (Watch(house()), told_of(house(), RUN), told_of(Leaf("a", 1), [("did", "a", 1)])):
            for many in [0, -1, 101, 10**30, "20"] + odd_values(int):
                with self.subTest(many=many), self.assertRaises(BadSize) as caught:
                    watch.bar(many)
                self.assertIs(type(caught.exception), BadSize)


class Bars(WatchTest):
    def test_so_many_signs(self):
        watch = told_of(Leaf("a", 3), [("did", "a", 2)])
        self.assertEqual(watch.bar(), "#############.......")
        self.assertEqual(watch.bar(6), "####..")
        self.assertEqual(watch.bar(many=1), ".")
        for many in (1, 20, 99, 100):
            self.assertEqual(watch.bar(many), bar((2, 3), many))

    def test_it_shows_what_is_told_and_not_how_far_the_plan_is(self):
        watch = told_of(Leaf("a", 2), [("did", "a", 1), ("again", "a")])
        self.assertEqual((watch.far(), watch.bar(4)), (NOTHING, "##.."))


class Undoing(WatchTest):
    def test_nothing_to_take_back(self):
        for watch in (Watch(house()), told_of(house(), [])):
            with self.assertRaises(NoDeed) as caught:
                watch.undo()
            self.assertIs(type(caught.exception), NoDeed)
            self.assert_watched(watch, house(), [])

    def test_down_to_none_at_all(self):
        watch = told_of(house(), RUN)
        shares = told(house(), RUN)
        for many in range(len(RUN) - 1, -1, -1):
            self.assertEqual(watch.undo(), shares[many])
            self.assert_watched(watch, house(), RUN[:many])
        for _ in range(2):
            with self.assertRaises(NoDeed):
                watch.undo()
        self.assert_watched(watch, house(), [])
        for many, telling in enumerate(RUN):
            self.assertEqual(watch.tell(telling), shares[many + 1])

    def test_a_refused_telling_is_not_taken_back(self):
        watch = Watch(house())
        self.assert_refused(watch, ("did", "ground", 9), 0)
        with self.assertRaises(NoDeed):
            watch.undo()
        watch.tell(("did", "ground", 2))
        self.assert_refused(watch, ("did", "ground", 9), 1)
        self.assertEqual(watch.undo(), NOTHING)

    def test_behind_a_fall(self):
        plan = Row("x", leaves("ab", steps=2))
        watch = told_of(plan, [("did", "a", 2), ("again", "a")])
        self.assertEqual(watch.undo(), (1, 2))
        self.assertEqual((watch.far(), watch.far("a")), ((1, 2), WHOLE))
        self.assert_refused(watch, ("did", "a", 1), 1)
        # Without the fall what is told is how far the plan is.
        self.assertEqual(watch.tell(("did", "b", 1)), (3, 4))
        watch.tell(("again", "x"))
        self.assertEqual(watch.tell(("did", "a", 1)), (13, 16))
        self.assertEqual(watch.undo(), (3, 4))
        self.assertEqual(watch.undo(), (3, 4))
        self.assertEqual(watch.undo(), (1, 2))
        self.assertEqual(watch.undo(), NOTHING)

    def test_what_is_told_falls_only_by_taking_back(self):
        watch = told_of(Leaf("a", 1), [("did", "a", 1)])
        self.assertEqual((watch.told(), watch.undo(), watch.told()), (WHOLE, NOTHING, NOTHING))
        self.assertEqual(watch.tell(("again", "a")), NOTHING)

    def test_behind_a_leaf_found(self):
        watch = told_of(house(), [("did", "bricks", 2), ("found", "walls", 4, "roof", 2), ("did", "roof", 1)])
        watch.undo()
        self.assertEqual(watch.far("roof"), NOTHING)
        watch.undo()
        with self.assertRaises(BadName):
            watch.far("roof")
        self.assert_refused(watch, ("did", "roof", 1), 1)
        self.assert_watched(watch, house(), [("did", "bricks", 2)])
        # Its name is free again.
        watch.tell(("found", "inside", 9, "roof", None))
        self.assert_watched(watch, house(), watch.run())
        self.assertEqual(watch.far("walls"), (3, 8))

    def test_behind_steps_that_came_to_be_known(self):
        watch = told_of(Leaf("a"), [("did", "a", 3), ("knows", "a", 3)])
        self.assertEqual((watch.told(), watch.undo(), watch.far()), (WHOLE, NOTHING, NOTHING))
        self.assertEqual(watch.tell(("did", "a", 3)), NOTHING)
        self.assert_refused(watch, ("knows", "a", 5), 2)
        self.assertEqual(watch.tell(("knows", "a", 12)), (1, 2))

    def test_behind_a_beginning_anew(self):
        watch = told_of(house(), [("did", "ground", 3), ("did", "pipes", 2), ("did", "bricks", 4), ("again", "house")])
        watch.undo()
        self.assertEqual([watch.far(name) for name in ("ground", "pipes", "bricks")], [(3, 5), (1, 3), WHOLE])

    def test_drawn_runs(self):
        for seed in range(200):
            draw = random.Random(seed)
            model = fitting_plan(draw)
            plan = model.work()
            watch, run, models, shares = Watch(plan), [], [model], [Fraction(0)]
            for _ in range(draw.randint(1, 40)):
                if draw.random() < 0.3:
                    if run:
                        run.pop(), models.pop(), shares.pop()
                        self.assertEqual(watch.undo(), pair(shares[-1]))
                    else:
                        with self.assertRaises(NoDeed):
                            watch.undo()
                    continue
                telling = drawn_telling(draw, models[-1])
                before, now = models[-1], copy.deepcopy(models[-1])
                if not now.take(telling):
                    self.assert_refused(watch, telling, len(run))
                    continue
                kept = 1 if now.far() <= before.far() else (1 - now.far()) / (1 - before.far())
                run.append(telling), models.append(now), shares.append(1 - (1 - shares[-1]) * kept)
                self.assertEqual(watch.tell(telling), pair(shares[-1]))
                self.assertEqual(watch.run(), run)
                for node in now.all():
                    self.assertEqual(watch.far(node.name), pair(node.far()))
            self.assert_watched(watch, plan, run)

    def test_a_long_run_taken_back(self):
        run = [("did", "a", 1)] * 300
        watch = told_of(Leaf("a", 300), run)
        for many in range(299, -1, -1):
            self.assertEqual(watch.undo(), pair(Fraction(many, 300)))
        self.assertEqual(watch.run(), [])


class ByThemselves(WatchTest):
    def test_watches_do_not_touch_one_another(self):
        plan = house()
        one, other, third = Watch(plan), Watch(plan), told_of(plan, RUN)
        for many, telling in enumerate(RUN):
            one.tell(telling)
            self.assert_watched(other, plan, [])
            self.assert_watched(third, plan, RUN[:len(RUN) - many])
            third.undo()
        self.assert_watched(one, plan, RUN)
        other.tell(("did", "wires", 3))
        self.assert_watched(one, plan, RUN)
        self.assert_watched(other, plan, [("did", "wires", 3)])

    def test_the_plan_stays_as_it_was(self):
        plan = house()
        watch = told_of(plan, RUN)
        self.assertEqual(shape(plan), shape(house()))
        watch.undo()
        self.assertEqual(shape(plan), shape(house()))
        self.assertEqual(far(plan, []), NOTHING)

    def test_the_plan_is_not_kept(self):
        plan = Leaf("a", 4)
        watch = told_of(plan, [("did", "a", 1), ("did", "a", 1)])
        plan.__init__("b", 9)
        self.assertEqual((watch.far("a"), watch.undo(), watch.far("a")), ((1, 2), (1, 4), (1, 4)))
        with self.assertRaises(BadName):
            watch.far("b")
        row = house()
        watch = told_of(row, RUN)
        row.parts().clear()
        row.__init__("other", leaves("ab"))
        watch.undo()
        self.assert_watched(watch, house(), RUN[:-1])

    def test_what_is_told_is_the_askers_own(self):
        watch = told_of(house(), RUN[:3])
        run = watch.run()
        self.assertIs(type(run), list)
        run.clear()
        run.append(("did", "ground", 9))
        self.assert_watched(watch, house(), RUN[:3])
        self.assertIsNot(watch.run(), watch.run())
        run = watch.run()
        watch.tell(RUN[3])
        self.assertEqual(run, RUN[:3])
        watch.undo()
        watch.undo()
        self.assertEqual(run, RUN[:3])
        Watch(house()).run().append(None)
        self.assertEqual(Watch(house()).run(), [])

    def test_fields_of_errors_are_the_askers_own(self):
        watch = told_of(house(), RUN[:3])
        for _ in range(2):
            with self.assertRaises(BadRun) as caught:
                watch.tell(None)
            self.assertEqual(caught.exception.place, 3)
            caught.exception.place = 9
        self.assert_watched(watch, house(), RUN[:3])

    def test_asking_changes_nothing(self):
        watch = told_of(house(), RUN)
        for _ in range(2):
            self.assert_watched(watch, house(), RUN)

    def test_a_plan_that_was_read(self):
        watch = told_of(read(written(house())), RUN)
        self.assert_watched(watch, house(), RUN)


if __name__ == "__main__":
    unittest.main()
