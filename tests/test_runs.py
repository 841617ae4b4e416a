"""Runs: promise 3, the refusals BadRun and BadName, and became."""

import unittest

from howfar.errors import BadName, BadRun
from howfar.runs import became, falls, far, told, worth
from howfar.works import Bundle, Leaf, Row, Work
from tests.samples import crowd, house, leaves, nested, odd_values, shape

# Each asks a plan and a run alone.
ASKED = {
    "far": far,
    "far of the plan": lambda plan, run: far(plan, run, plan.name()),
    "told": told,
    "falls": falls,
    "worth": lambda plan, run: worth(plan, plan.name(), run),
    "became": became,
}


class RunTest(unittest.TestCase):
    def assert_run(self, plan, run):
        for name, ask in ASKED.items():
            with self.subTest(name, run=run):
                ask(plan, run)

    def assert_none(self, plan, run, place):
        """Whether just the telling at that place is the first that is none."""
        self.assert_run(plan, run[:place])
        for name, ask in ASKED.items():
            with self.subTest(name, run=run):
                with self.assertRaises(BadRun) as caught:
                    ask(plan, run)
                self.assertEqual(caught.exception.place, place)

    def assert_last_is_none(self, plan, run):
        self.assert_none(plan, run, len(run) - 1)


class Lists(RunTest):
    def test_an_empty_run(self):
        for plan in (house(), Leaf("a"), Leaf("a", 1), Bundle("b", leaves("c"))):
            self.assert_run(plan, [])
            self.assertEqual(told(plan, []), [(0, 1)])
            self.assertEqual(falls(plan, []), [])
            self.assertEqual(far(plan, []), (0, 1))
            self.assertEqual(shape(became(plan, [])), shape(plan))

    def test_what_is_no_list_is_none_at_0(self):
        for run in odd_values(list) + [(("did", "ground", 1),), ("did", "ground", 1), "did ground 1",
                                       iter([("did", "ground", 1)]), {0: ("did", "ground", 1)}]:
            for name, ask in ASKED.items():
                # Told in the document: without a run worth takes no tellings.
                if name == "worth" and run is None:
                    continue
                with self.subTest(name, run=run):
                    with self.assertRaises(BadRun) as caught:
                        ask(house(), run)
                    self.assertEqual(caught.exception.place, 0)

    def test_what_is_no_telling(self):
        good = [("did", "ground", 1), ("again", "house")]
        for telling in odd_values() + [
                ["did", "ground", 1], ["again", "house"], ("did",), ("again",), ("found",), ("knows",),
                ("did", "ground"), ("did", "ground", 1, 1), ("again", "house", 1), ("again", "house", None),
                ("knows", "plaster"), ("knows", "plaster", 3, 3), ("found", "house", 1, "roof"),
                ("found", "house", 1, "roof", 2, 2), ("does", "ground", 1), ("Did", "ground", 1),
                ("did ", "ground", 1), ("", "ground", 1), ("ground", 1), ("ground", "did", 1), "did", "again",
                (b"did", "ground", 1), ("did", b"ground", 1)]:
            for place in (0, 1, 2):
                self.assert_none(house(), [*good[:place], telling, *good[place:]], place)

    def test_words_of_other_kinds(self):
        for word in odd_values():
            for rest in (("ground", 1), ("house",), ("house", 1, "roof", 2)):
                self.assert_last_is_none(house(), [(word, *rest)])

    def test_the_first_of_several_that_are_none_is_told(self):
        run = [("did", "ground", 1), ("did", "ground", 9), None, ("did", "nobody", 1)]
        self.assert_none(house(), run, 1)
        self.assert_none(house(), run[2:], 0)


class Did(RunTest):
    def test_up_to_what_is_left(self):
        self.assertEqual(far(house(), [("did", "ground", 1)], "ground"), (1, 5))
        self.assertEqual(far(house(), [("did", "ground", 5)], "ground"), (1, 1))
        self.assertEqual(far(house(), [("did", "ground", 3), ("did", "ground", 2)], "ground"), (1, 1))
        self.assertEqual(far(Leaf("a", 1000), [("did", "a", 1000)]), (1, 1))
        self.assertEqual(far(Leaf("a", 1), [("did", "a", 1)]), (1, 1))

    def test_more_than_is_left_is_none(self):
        self.assert_last_is_none(house(), [("did", "ground", 6)])
        self.assert_last_is_none(house(), [("did", "ground", 3), ("did", "ground", 3)])
        self.assert_last_is_none(house(), [("did", "ground", 5), ("did", "ground", 1)])
        self.assert_last_is_none(Leaf("a", 999), [("did", "a", 1000)])

    def test_any_number_where_steps_are_not_known(self):
        run = [("did", "plaster", 1000), ("did", "plaster", 1), ("did", "plaster", 1000)]
        self.assert_run(house(), run)
        self.assertEqual(far(house(), run, "plaster"), (0, 1))

    def test_beyond_the_bounds_is_none(self):
        for plan in (Leaf("a", 1000), Leaf("a")):
            for many in [0, -1, 1001, 10**30] + odd_values(int):
                self.assert_last_is_none(plan, [("did", "a", many)])

    def test_no_leaf_is_none(self):
        for name in ["house", "walls", "inside", "nobody", "Ground", "groundsel"] + odd_values(str):
            self.assert_last_is_none(house(), [("did", name, 1)])


class Knows(RunTest):
    def test_no_less_than_was_done(self):
        for steps in (3, 4, 1000):
            run = [("did", "plaster", 3), ("knows", "plaster", steps)]
            self.assertEqual(became(house(), run).parts()[1][1].parts()[1][1].steps(), steps)
        self.assertEqual(far(house(), run[:1] + [("knows", "plaster", 3)], "plaster"), (1, 1))
        self.assertEqual(far(house(), run[:1] + [("knows", "plaster", 4)], "plaster"), (3, 4))
        self.assertEqual(far(Leaf("a"), [("knows", "a", 1)]), (0, 1))

    def test_less_than_was_done_is_none(self):
        self.assert_last_is_none(house(), [("did", "plaster", 3), ("knows", "plaster", 2)])
        self.assert_last_is_none(Leaf("a"), [("did", "a", 1000), ("did", "a", 1), ("knows", "a", 1000)])

    def test_after_a_beginning_anew_nothing_was_done(self):
        self.assert_run(Leaf("a"), [("did", "a", 3), ("again", "a"), ("knows", "a", 2)])

    def test_steps_that_were_known_are_none(self):
        self.assert_last_is_none(house(), [("knows", "ground", 5)])
        self.assert_last_is_none(house(), [("knows", "ground", 6)])
        self.assert_last_is_none(house(), [("knows", "plaster", 6), ("knows", "plaster", 6)])
        self.assert_last_is_none(house(), [("knows", "plaster", 6), ("again", "plaster"), ("knows", "plaster", 6)])

    def test_then_they_bound_what_can_be_done(self):
        self.assert_run(Leaf("a"), [("knows", "a", 3), ("did", "a", 3)])
        self.assert_last_is_none(Leaf("a"), [("knows", "a", 3), ("did", "a", 4)])
        self.assert_last_is_none(Leaf("a"), [("did", "a", 2), ("knows", "a", 3), ("did", "a", 2)])

    def test_beyond_the_bounds_is_none(self):
        for steps in [0, -1, 1001, 10**30] + odd_values(int):
            self.assert_last_is_none(Leaf("a"), [("knows", "a", steps)])

    def test_no_leaf_is_none(self):
        for name in ["house", "walls", "inside", "nobody", "Ground"] + odd_values(str):
            self.assert_last_is_none(house(), [("knows", name, 1)])


class Found(RunTest):
    def test_a_leaf_more_behind_the_others(self):
        for weight in (1, 100):
            for steps in (1, 1000, None):
                for name in ("r", "rooftops"):
                    run = [("found", "walls", weight, name, steps)]
                    walls = became(house(), run).parts()[1][1]
                    self.assertEqual([part.name() for _, part in walls.parts()], ["bricks", "plaster", name])
                    self.assertEqual((walls.parts()[2][0], shape(walls.parts()[2][1])),
                                     (weight, ("leaf", name, steps, [])))
                    self.assertEqual(became(house(), run).names(), [
                        "house", "ground", "walls", "bricks", "plaster", name, "inside", "pipes", "wires", "paint"])

    def test_in_the_plan_itself_and_in_a_bundle(self):
        run = [("found", "house", 1, "roof", 2), ("found", "inside", 1, "lamps", None)]
        self.assertEqual(became(house(), run).names(), ["house", "ground", "walls", "bricks", "plaster", "inside",
                                                        "pipes", "wires", "paint", "lamps", "roof"])

    def test_what_was_found_can_be_told_of(self):
        run = [("found", "walls", 1, "roof", None), ("did", "roof", 2), ("knows", "roof", 4), ("did", "roof", 1)]
        self.assertEqual(far(house(), run, "roof"), (3, 4))
        self.assert_last_is_none(house(), [*run, ("did", "roof", 2)])
        self.assert_last_is_none(house(), run[1:2])
        self.assertEqual(far(house(), [*run, ("again", "walls")], "roof"), (0, 1))

    def test_up_to_six_parts(self):
        for elder in (Row, Bundle):
            self.assert_run(elder("x", leaves("abcde")), [("found", "x", 1, "f", 1)])
            self.assert_last_is_none(elder("x", leaves("abcdef")), [("found", "x", 1, "g", 1)])
            run = [("found", "x", 1, "f", 1), ("found", "x", 1, "g", 1)]
            self.assert_last_is_none(elder("x", leaves("abcde")), run)

    def test_up_to_20_works(self):
        run = [("found", "bundlea", 1, "new", 1)]
        self.assertEqual(len(became(crowd(19), run).names()), 20)
        self.assert_last_is_none(crowd(20), run)
        self.assert_last_is_none(crowd(19), [*run, ("found", "crowd", 1, "newer", 1)])
        self.assert_last_is_none(crowd(20), [("found", "crowd", 1, "new", None)])

    def test_at_the_depth_of_five(self):
        self.assertEqual(became(nested(5), [("found", "a", 1, "new", 1)]).names(), ["d", "c", "b", "a", "leaf", "new"])

    def test_a_name_that_is_told_already_is_none(self):
        for name in house().names():
            self.assert_last_is_none(house(), [("found", "walls", 1, name, 3)])
        self.assert_last_is_none(house(), [("found", "walls", 1, "roof", 3), ("found", "inside", 1, "roof", 3)])

    def test_where_no_parts_are_is_none(self):
        for name in ["ground", "plaster", "nobody", "House", "roof"] + odd_values(str):
            self.assert_last_is_none(house(), [("found", name, 1, "roof", 3)])
        self.assert_last_is_none(Leaf("a"), [("found", "a", 1, "b", 3)])

    def test_what_2_forbids_is_none(self):
        for weight in [0, -1, 101, 10**30] + odd_values(int):
            self.assert_last_is_none(house(), [("found", "walls", weight, "roof", 3)])
        for steps in [0, -1, 1001] + odd_values(int, type(None)):
            self.assert_last_is_none(house(), [("found", "walls", 1, "roof", steps)])
        for name in ["", "rooftopss", "Roof", "roof ", "r1"] + odd_values(str):
            self.assert_last_is_none(house(), [("found", "walls", 1, name, 3)])


class Again(RunTest):
    deeds = [("did", "ground", 2), ("did", "bricks", 1), ("did", "pipes", 3), ("did", "plaster", 5),
             ("knows", "plaster", 10)]

    def fars(self, *more):
        names = ("ground", "bricks", "plaster", "pipes", "wires")
        return [far(house(), [*self.deeds, *more], name) for name in names]

    def test_all_leaves_in_it_did_nothing(self):
        none = (0, 1)
        self.assertEqual(self.fars(), [(2, 5), (1, 4), (1, 2), (1, 2), none])
        self.assertEqual(self.fars(("again", "house")), [none] * 5)
        self.assertEqual(self.fars(("again", "walls")), [(2, 5), none, none, (1, 2), none])
        self.assertEqual(self.fars(("again", "inside")), [(2, 5), (1, 4), (1, 2), none, none])
        self.assertEqual(self.fars(("again", "ground")), [none, (1, 4), (1, 2), (1, 2), none])
        self.assertEqual(self.fars(("again", "wires")), self.fars())

    def test_all_deep_down(self):
        run = [("did", "leaf", 4), ("again", "d"), ("did", "leaf", 10)]
        self.assertEqual(far(nested(5), run), (1, 1))
        self.assert_last_is_none(nested(5), [run[0], run[2]])

    def test_steps_stay_known(self):
        self.assertEqual(shape(became(house(), [*self.deeds, ("again", "house")])), shape(became(house(), self.deeds)))

    def test_also_where_nothing_was_done(self):
        self.assert_run(house(), [("again", "house"), ("again", "house"), ("again", "paint")])

    def test_no_work_is_none(self):
        for name in ["nobody", "House", "roof"] + odd_values(str):
            self.assert_last_is_none(house(), [("again", name)])


class Became(RunTest):
    def test_a_run_without_findings(self):
        run = [("did", "ground", 2), ("did", "plaster", 2), ("again", "house")]
        self.assertEqual(shape(became(house(), run)), shape(house()))

    def test_all_at_once(self):
        run = [("knows", "plaster", 7), ("found", "inside", 9, "lamps", None), ("found", "house", 4, "roof", 8),
               ("knows", "lamps", 1000)]
        self.assertEqual(shape(became(house(), run)), ("row", "house", None, [
            (2, ("leaf", "ground", 5, [])),
            (4, ("row", "walls", None, [(3, ("leaf", "bricks", 4, [])), (1, ("leaf", "plaster", 7, []))])),
            (3, ("bundle", "inside", None, [(2, ("leaf", "pipes", 6, [])), (2, ("leaf", "wires", 3, [])),
                                            (1, ("leaf", "paint", None, [])), (9, ("leaf", "lamps", 1000, []))])),
            (4, ("leaf", "roof", 8, []))]))

    def test_a_leaf(self):
        self.assertEqual(shape(became(Leaf("a"), [("knows", "a", 7)])), ("leaf", "a", 7, []))

    def test_it_is_a_new_work(self):
        for plan in (house(), Leaf("a", 3)):
            told_work = became(plan, [])
            self.assertIsInstance(told_work, Work)
            self.assertIsNot(told_work, plan)

    def test_it_can_be_run_itself(self):
        plan = became(house(), [("found", "house", 4, "roof", 8)])
        self.assertEqual(far(plan, [("did", "roof", 2)], "roof"), (1, 4))


class BadNames(unittest.TestCase):
    names = ["nobody", "House", "", "roof"]

    def test_no_works_name(self):
        for name in self.names + odd_values(str, type(None)):
            with self.subTest(name=name):
                with self.assertRaises(BadName):
                    far(house(), [], name)
                with self.assertRaises(BadName):
                    worth(house(), name)
                with self.assertRaises(BadName):
                    worth(house(), name, [])

    def test_none_is_no_name_of_a_worth(self):
        with self.assertRaises(BadName):
            worth(house(), None)

    def test_the_plan_behind_the_run_is_asked(self):
        run = [("found", "house", 4, "roof", 8)]
        self.assertEqual(far(house(), run, "roof"), (0, 1))
        self.assertEqual(worth(house(), "roof", run), (4, 13))

    def test_the_run_is_refused_first(self):
        for run in (None, [None], [("did", "nobody", 1)]):
            for name in self.names + odd_values(str, type(None)):
                with self.assertRaises(BadRun):
                    far(house(), run, name)
        for name in self.names + odd_values(str):
            with self.assertRaises(BadRun):
                worth(house(), name, [None])


class HandedIn(unittest.TestCase):
    deeds = [("did", "ground", 2), ("knows", "plaster", 4), ("found", "house", 4, "roof", 8), ("again", "walls")]

    def test_plan_and_run_stay_as_they_were(self):
        plan, run = house(), list(self.deeds)
        before = shape(plan)
        for bad in (False, True):
            for name, ask in ASKED.items():
                if bad:
                    with self.assertRaises(BadRun):
                        ask(plan, [*run, ("did", "ground", 9)])
                else:
                    ask(plan, run)
                self.assertEqual(run, self.deeds, name)
                self.assertEqual(shape(plan), before, name)

    def test_answers_are_the_same_each_time(self):
        plan, run = house(), list(self.deeds)
        for name, ask in list(ASKED.items())[:-1]:
            self.assertEqual(ask(plan, run), ask(plan, run), name)
        self.assertEqual(shape(became(plan, run)), shape(became(plan, run)))

    def test_changing_the_run_later_changes_nothing(self):
        plan, run = house(), list(self.deeds)
        work = became(plan, run)
        before = shape(work)
        shares = told(plan, run)
        run.clear()
        self.assertEqual(shape(work), before)
        self.assertEqual(shares, told(plan, self.deeds))

    def test_changing_what_is_told_changes_nothing(self):
        plan, run = house(), [*self.deeds, ("again", "house")]
        for ask in (told, falls):
            answer = ask(plan, run)
            self.assertIs(type(answer), list)
            copy = list(answer)
            answer.clear()
            self.assertEqual(ask(plan, run), copy)
        work = became(plan, run)
        work.parts().clear()
        work.names().clear()
        self.assertEqual(shape(became(plan, run)), shape(work))


if __name__ == "__main__":
    unittest.main()
