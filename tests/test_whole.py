"""The whole program: promise 1 at every door, and the bounds of 2 to 9 at every door that takes such."""

import unittest

from howfar.errors import (BadName, BadPaces, BadRows, BadRun, BadShares, BadSize, BadTallies, BadWork, FarError,
                           NoDeed, Unlike)
from howfar.hands import joined
from howfar.plans import apart
from howfar.runs import became, falls, far, told, worth
from howfar.showing import bar, few, percent
from howfar.texts import read, read_run, written, written_run
from howfar.times import left
from howfar.watch import Watch
from howfar.works import Bundle, Leaf, Row, Work
from tests.samples import crowd, house, leaves, nested, odd_values, shape
from tests.test_interface import CLASSES, FUNCTIONS

RUN = [("knows", "plaster", 10), ("knows", "paint", 2), ("did", "ground", 2), ("did", "pipes", 6),
       ("found", "walls", 4, "roof", 8), ("again", "inside"), ("did", "roof", 5)]
PACES = {"ground": (1, 2), "bricks": (10, 100), "plaster": (0, 3), "pipes": (2, 3), "wires": (1, 7), "paint": (6, 6),
         "roof": (1, 1)}


def told_of(plan, run):
    watch = Watch(plan)
    for telling in run:
        watch.tell(telling)
    return watch


def world():
    """One of each thing that can be handed in, made anew."""
    return {
        "leaf": Leaf("odd", 3), "parts": [(1, Leaf("one", 3)), (2, Row("two", leaves("ab")))], "bundle": nested(3),
        "plan": house(), "other": Row("house", leaves("abc")), "third": Bundle("x", leaves("ab") + leaves("c", 9)),
        "run": list(RUN), "paces": dict(PACES), "tallies": [("ann", "b", 2), ("bob", "a", 3), ("ann", "b", 1)],
        "shares": told(house(), RUN), "watch": told_of(house(), RUN), "text": written(house()),
    }


# Asks each function and method of the interface by what the world holds.
DOORS = {
    "Leaf": lambda has: Leaf("a", 5),
    "Row": lambda has: Row("x", has["parts"]),
    "Bundle": lambda has: Bundle("x", has["parts"]),
    "Leaf.name": lambda has: has["leaf"].name(),
    "Leaf.parts": lambda has: has["leaf"].parts(),
    "Leaf.steps": lambda has: has["leaf"].steps(),
    "Leaf.names": lambda has: has["leaf"].names(),
    "Row.name": lambda has: has["plan"].name(),
    "Row.parts": lambda has: has["plan"].parts(),
    "Row.steps": lambda has: has["plan"].steps(),
    "Row.names": lambda has: has["plan"].names(),
    "Bundle.name": lambda has: has["third"].name(),
    "Bundle.parts": lambda has: has["third"].parts(),
    "Bundle.steps": lambda has: has["third"].steps(),
    "Bundle.names": lambda has: has["third"].names(),
    "far": lambda has: [far(has["plan"], has["run"], name) for name in (None, "walls", "roof")],
    "told": lambda has: told(has["plan"], has["run"]),
    "falls": lambda has: falls(has["plan"], has["run"]),
    "worth": lambda has: [worth(has["plan"], "roof", has["run"]), worth(has["plan"], "walls")],
    "became": lambda has: became(has["plan"], has["run"]),
    "left": lambda has: left(has["plan"], has["run"], has["paces"]),
    "joined": lambda has: joined(has["tallies"]),
    "few": lambda has: few(has["shares"], (1, 20)),
    "bar": lambda has: bar((1, 3), 7),
    "percent": lambda has: percent((1, 3)),
    "apart": lambda has: apart(has["other"], has["third"]),
    "written": lambda has: written(has["plan"]),
    "read": lambda has: read(has["text"]),
    "written_run": lambda has: written_run(has["run"]),
    "read_run": lambda has: read_run("\n".join(["did a 1", "found b 3 a ?"])),
    "Watch": lambda has: Watch(has["plan"]),
    "Watch.tell": lambda has: [each.tell(("again", "house")) for each in [told_of(has["plan"], has["run"])]],
    "Watch.undo": lambda has: [each.undo() for each in [told_of(has["plan"], has["run"])]],
    "Watch.far": lambda has: [has["watch"].far(), has["watch"].far("roof")],
    "Watch.told": lambda has: has["watch"].told(),
    "Watch.run": lambda has: has["watch"].run(),
    "Watch.bar": lambda has: has["watch"].bar(),
}

# Each ends in a refusal, by one of several things handed in or by all of them.
REFUSED = {
    "Leaf": lambda has: Leaf(has["run"], has["paces"]),
    "Row": lambda has: Row("one", has["parts"]),
    "Row of other things": lambda has: Row("x", has["run"]),
    "Bundle": lambda has: Bundle("a", has["parts"]),
    "far": lambda has: far(has["plan"], has["shares"]),
    "far of no work": lambda has: far(has["plan"], has["run"], has["run"]),
    "told": lambda has: told(has["other"], has["run"]),
    "falls": lambda has: falls(has["plan"], [*has["run"], None]),
    "worth": lambda has: worth(has["plan"], "house", has["paces"]),
    "worth of no work": lambda has: worth(has["plan"], has["paces"]),
    "became": lambda has: became(has["plan"], has["run"] + has["run"]),
    "left": lambda has: left(has["plan"], has["run"][:4], has["paces"]),
    "left of no run": lambda has: left(has["plan"], has["paces"], has["run"]),
    "joined": lambda has: joined(has["run"]),
    "few": lambda has: few(has["shares"][::-1], (0, 1)),
    "few off by no share": lambda has: few(has["shares"], has["shares"]),
    "bar": lambda has: bar(has["shares"]),
    "bar of no size": lambda has: bar((1, 2), has["run"]),
    "percent": lambda has: percent(has["paces"]),
    "apart": lambda has: apart(has["plan"], has["other"]),
    "apart of no plan": lambda has: apart(has["parts"], has["run"]),
    "read": lambda has: read(has["text"] + "\n"),
    "read of no text": lambda has: read(has["parts"]),
    "written_run": lambda has: written_run(has["shares"]),
    "read_run": lambda has: read_run(has["text"]),
    "read_run of no text": lambda has: read_run(has["run"]),
    "Watch.tell": lambda has: has["watch"].tell(has["run"]),
    "Watch.tell again": lambda has: has["watch"].tell(has["run"][0]),
    "Watch.undo": lambda has: Watch(has["plan"]).undo(),
    "Watch.far": lambda has: has["watch"].far(has["run"]),
    "Watch.bar": lambda has: has["watch"].bar(has["paces"]),
}


def plain(value):
    """The value with works and watches as plain values, and with the kinds of all values."""
    if isinstance(value, Work):
        return plain(shape(value))
    if isinstance(value, Watch):
        return plain([value.run(), value.told(), value.far(), value.bar()])
    if isinstance(value, dict):
        return "dict", [(plain(key), plain(each)) for key, each in value.items()]
    if isinstance(value, (list, tuple)):
        return type(value).__name__, [plain(each) for each in value]
    return type(value).__name__, value


def spoil(value):
    """Change each list and dict in the value, and what can be asked of works and watches in it."""
    if isinstance(value, Work):
        spoil(value.parts())
        spoil(value.names())
        if isinstance(value, Leaf):
            value.__init__("spoilt", 7)
        else:
            value.__init__("spoilt", [(7, Leaf("rotten"))])
    elif isinstance(value, Watch):
        spoil(value.run())
        value.tell(("again", "house"))
    elif isinstance(value, dict):
        spoil(list(value.values()))
        value["spoilt"] = value.pop(next(iter(value), None), None)
    elif isinstance(value, (list, tuple)):
        for each in value:
            spoil(each)
        if isinstance(value, list):
            value[:] = ["spoilt", *value[1:]]


def fields(error):
    return [*vars(error).values(), *error.args]


def caught(ask, has):
    try:
        ask(has)
    except FarError as error:
        return error
    raise AssertionError("nothing was refused")


class EachDoor(unittest.TestCase):
    def answers(self, has):
        return {name: plain(ask(has)) for name, ask in DOORS.items()}

    def refusals(self, has):
        errors = {name: caught(ask, has) for name, ask in REFUSED.items()}
        return {name: (type(error), plain(fields(error))) for name, error in errors.items()}

    def test_all_of_the_interface_is_asked(self):
        names = {name for functions in FUNCTIONS.values() for name in functions}
        for classes in CLASSES.values():
            for name, (_, methods) in classes.items():
                if not name.endswith(("Error", "Work")) and methods:
                    names |= {f"{name}.{method}".removesuffix(".__init__") for method in methods}
        self.assertEqual(names, set(DOORS))

    def test_what_was_handed_in_stays_as_it_was(self):
        for name, ask in DOORS.items():
            has = world()
            ask(has)
            self.assertEqual(plain(has), plain(world()), name)

    def test_what_was_refused_stays_as_it_was(self):
        for name, ask in REFUSED.items():
            has = world()
            caught(ask, has)
            self.assertEqual(plain(has), plain(world()), name)
            self.assertEqual(self.answers(has), self.answers(world()), name)

    def test_answers_are_the_same_each_time(self):
        has = world()
        answers, refusals = self.answers(has), self.refusals(has)
        self.assertEqual((self.answers(has), self.refusals(has)), (answers, refusals))
        self.assertEqual((self.answers(world()), self.refusals(world())), (answers, refusals))

    def test_what_is_told_is_the_askers_own(self):
        for name, ask in DOORS.items():
            has = world()
            answers = self.answers(has)
            spoil(ask(has))
            self.assertEqual(plain(has), plain(world()), name)
            self.assertEqual(self.answers(has), answers, name)

    def test_fields_of_errors_are_the_askers_own(self):
        for name, ask in REFUSED.items():
            has = world()
            answers, refusals = self.answers(has), self.refusals(has)
            error = caught(ask, has)
            spoil(fields(error))
            for field in vars(error):
                setattr(error, field, "spoilt")
            self.assertEqual((self.answers(has), self.refusals(has)), (answers, refusals), name)

    def test_what_was_handed_in_is_not_kept(self):
        for name, ask in DOORS.items():
            has = world()
            answer = ask(has)
            before = plain(answer)
            for key in has:
                # The watch is the program's own, and a plain text can't be changed.
                if key != "watch":
                    spoil(has[key])
            self.assertEqual(plain(answer), before, name)
            self.assertEqual(plain(has["watch"]), plain(world()["watch"]), name)

    def test_no_number_told_is_true_or_false(self):
        for name, answer in self.answers(world()).items():
            self.assertNotIn("'bool'", repr(answer), name)
            self.assertNotIn("'float'", repr(answer), name)


# Each takes a value where its refusal is told: the refusal, the door, and which of the odd values are none to refuse.
TAKERS = [
    (BadWork, lambda value: Leaf(value, 5), ["a"]),
    (BadWork, lambda value: Leaf("b", value), [None, 1]),
    (BadWork, lambda value: Row(value, leaves("b")), ["a"]),
    (BadWork, lambda value: Bundle(value, leaves("b")), ["a"]),
    (BadWork, lambda value: Row("x", value), []),
    (BadWork, lambda value: Bundle("x", value), []),
    (BadWork, lambda value: Row("x", [value]), []),
    (BadWork, lambda value: Bundle("x", [(value, Leaf("b"))]), [1]),
    (BadWork, lambda value: Row("x", [(1, value)]), [Leaf]),
    (BadRun, lambda value: far(house(), value), [[]]),
    (BadRun, lambda value: told(house(), value), [[]]),
    (BadRun, lambda value: falls(house(), value), [[]]),
    (BadRun, lambda value: worth(house(), "house", value), [None, []]),
    (BadRun, lambda value: became(house(), value), [[]]),
    (BadRun, lambda value: left(Leaf("b", 5), value, {"b": (1, 2)}), [[]]),
    (BadRun, lambda value: written_run(value), [[]]),
    (BadRun, lambda value: far(house(), [value]), []),
    (BadRun, lambda value: told(house(), [value]), []),
    (BadRun, lambda value: falls(house(), [value]), []),
    (BadRun, lambda value: worth(house(), "house", [value]), []),
    (BadRun, lambda value: became(house(), [value]), []),
    (BadRun, lambda value: left(house(), [value], PACES), []),
    (BadRun, lambda value: written_run([value]), []),
    (BadRun, lambda value: Watch(house()).tell(value), []),
    (BadName, lambda value: far(house(), RUN, value), [None]),
    (BadName, lambda value: worth(house(), value, RUN), []),
    (BadName, lambda value: Watch(house()).far(value), [None]),
    (BadPaces, lambda value: left(house(), RUN, value), []),
    (BadPaces, lambda value: left(house(), RUN, {**PACES, "roof": value}), []),
    (BadPaces, lambda value: left(Leaf("b", 5), [], {"b": (value, 5)}), [0, 1]),
    (BadPaces, lambda value: left(Leaf("b", 5), [], {"b": (0, value)}), [0, 1]),
    (BadTallies, lambda value: joined(value), [[]]),
    (BadTallies, lambda value: joined([value]), []),
    (BadTallies, lambda value: joined([(value, "b", 1)]), ["a"]),
    (BadTallies, lambda value: joined([("b", value, 1)]), ["a"]),
    (BadTallies, lambda value: joined([("b", "b", value)]), [0, 1]),
    (BadShares, lambda value: few(value, (1, 2)), []),
    (BadShares, lambda value: few([value], (1, 2)), []),
    (BadShares, lambda value: few([(0, 1)], value), []),
    (BadShares, lambda value: few([(value, 1)], (1, 2)), [0, 1]),
    (BadShares, lambda value: few([(1, value)], (1, 2)), [1, 10**30]),
    (BadShares, lambda value: few([(0, 1)], (value, 1)), [0, 1, 10**30]),
    (BadShares, lambda value: bar(value), []),
    (BadShares, lambda value: percent(value), []),
    (BadSize, lambda value: bar((1, 2), value), [1]),
    (BadSize, lambda value: Watch(house()).bar(value), [1]),
    (Unlike, lambda value: apart(value, Leaf("b", 5)), []),
    (Unlike, lambda value: apart(Leaf("b", 5), value), []),
    (BadRows, lambda value: read(value), []),
    (BadRows, lambda value: read_run(value), [""]),
]

# Two refusals are due; the one told first goes first.
TURNS = [
    (BadRun, lambda: far(house(), None, "nobody")),
    (BadRun, lambda: far(house(), [("did", "ground", 6)], 3)),
    (BadRun, lambda: worth(house(), "nobody", [None])),
    (BadRun, lambda: worth(house(), None, ())),
    (BadRun, lambda: left(house(), None, None)),
    (BadRun, lambda: left(house(), [("again", "nobody")], {})),
    (BadShares, lambda: bar((3, 2), 0)),
    (BadShares, lambda: bar(None, None)),
]


class Refusals(unittest.TestCase):
    def refused(self, ask):
        with self.assertRaises(FarError) as told_then:
            ask()
        return told_then.exception

    def test_each_of_its_own_class(self):
        for number, (kind, ask, good) in enumerate(TAKERS):
            kinds = [each for each in good if isinstance(each, type)]
            for value in odd_values():
                with self.subTest(kind, number=number, value=value):
                    # By kind and value, since True is 1 for Python.
                    if type(value) in kinds or any(type(each) is type(value) and each == value for each in good):
                        ask(value)
                        continue
                    error = self.refused(lambda: ask(value))
                    self.assertIs(type(error), kind)
                    self.assertEqual(vars(error), {BadRun: {"place": 0}, BadRows: {"row": 0}}.get(kind, {}))

    def test_in_turn(self):
        for number, (kind, ask) in enumerate(TURNS):
            with self.subTest(number=number):
                self.assertIs(type(self.refused(ask)), kind)

    def test_nothing_to_take_back(self):
        self.assertIs(type(self.refused(lambda: Watch(house()).undo())), NoDeed)


def left_of(plan, run):
    """Whether left takes the run, whatever its leaves."""
    try:
        left(plan, run, None)
    except BadPaces:
        pass


# Each takes a plan and a run of it.
RUNNERS = [far, told, falls, became, left_of, told_of, lambda plan, run: worth(plan, plan.name(), run)]
# Each takes a run whatever the plan.
TEXTS = [lambda _, run: written_run(run), lambda _, run: read_run("\n".join(
    " ".join("?" if word is None else str(word) for word in telling) for telling in run))]


class Bounds(unittest.TestCase):
    def assert_taken(self, asks):
        for number, ask in enumerate(asks):
            with self.subTest(number=number):
                ask()

    def assert_refused(self, kind, asks):
        for number, ask in enumerate(asks):
            with self.subTest(number=number), self.assertRaises(kind) as error:
                ask()
            self.assertIs(type(error.exception), kind)

    def assert_bounds(self, doors, good, bad):
        """Whether the doors, pairs of a refusal and what asks for a value, take the good ones and no bad one."""
        for kind, door in doors:
            for value in good:
                door(value)
            self.assert_refused(kind, [lambda value=value: door(value) for value in bad])

    def tellings(self, plan, telling):
        """Doors through which a telling of the plan with a value can go."""
        doors = [(BadRun, lambda value, ask=ask: ask(plan, [telling(value)])) for ask in RUNNERS + TEXTS[:1]]
        return doors + [(BadRows, lambda value: TEXTS[1](plan, [telling(value)]))]

    def test_names(self):
        good, bad = ["a", "z", "abcdefgh"], ["", "abcdefghi", "A", "a b", "a1", "a\n", "?"]
        self.assert_bounds([
            (BadWork, Leaf), (BadWork, lambda name: Row(name, leaves(["other"]))),
            (BadWork, lambda name: Bundle(name, leaves(["other"]))),
            (BadTallies, lambda name: joined([(name, "other", 1)])),
            (BadTallies, lambda name: joined([("other", name, 1)])),
            (BadRows, lambda name: read(f"leaf {name} 5")),
            (BadRows, lambda name: read(f"row {name}\n  1 leaf other 5")),
            (BadRows, lambda name: read(f"bundle other\n  1 leaf {name} 5")),
            *self.tellings(house(), lambda name: ("found", "walls", 1, name, 5)),
        ], good, bad)
        self.assert_bounds([(BadRun, lambda name: written_run([("did", name, 1), ("again", name)])),
                            (BadRows, lambda name: read_run(f"again {name}")),
                            (BadRows, lambda name: read_run(f"did {name} 1"))], good, bad)

    def test_steps(self):
        self.assert_bounds([
            (BadWork, lambda steps: Leaf("a", steps)), (BadRows, lambda steps: read(f"leaf a {steps}")),
            (BadRows, lambda steps: read(f"row x\n  1 leaf a {steps}")),
            *self.tellings(Leaf("a"), lambda steps: ("knows", "a", steps)),
            *self.tellings(Leaf("a"), lambda steps: ("did", "a", steps)),
            *self.tellings(house(), lambda steps: ("found", "walls", 1, "new", steps)),
        ], [1, 2, 999, 1000], [0, -1, 1001, 10**30])

    def test_weights(self):
        self.assert_bounds([
            (BadWork, lambda weight: Row("x", leaves("a", weight))),
            (BadWork, lambda weight: Bundle("x", leaves("a", weight))),
            (BadRows, lambda weight: read(f"row x\n  {weight} leaf a 5")),
            (BadRows, lambda weight: read(f"row x\n  {weight} bundle a\n    1 leaf b 5")),
            *self.tellings(house(), lambda weight: ("found", "walls", weight, "new", 5)),
        ], [1, 2, 99, 100], [0, -1, 101, 10**30])

    def test_ticks_tallies_and_signs(self):
        self.assert_bounds([(BadPaces, lambda ticks: left(Leaf("a", 5), [], {"a": (ticks, 1000)})),
                            (BadPaces, lambda ticks: left(Leaf("a", 5), [], {"a": (0, ticks)})),
                            (BadTallies, lambda many: joined([("a", "b", many)]))],
                           [0, 1, 999, 1000], [-1, 1001, 10**30])
        self.assert_bounds([(BadSize, lambda many: bar((1, 2), many)), (BadSize, Watch(house()).bar)],
                           [1, 2, 99, 100], [0, -1, 101, 10**30])

    def test_shares(self):
        self.assert_bounds([(BadShares, bar), (BadShares, percent), (BadShares, lambda share: few([share], (0, 1)))],
                           [(0, 1), (1, 10**30), (1, 1)],
                           [(-1, 10**30), (10**30 + 1, 10**30), (2, 2), (0, 2), (1, 0), (2, 1)])
        self.assert_bounds([(BadShares, lambda off: few([(0, 1)], off))], [(0, 1), (1, 1), (2, 1)],
                           [(-1, 1), (2, 2), (0, 2), (1, 0), (1, -1)])

    def found(self, plan, elder, good, bad):
        """Whether so many leaves, and no more, are found there."""
        run = [("found", elder, 1, "new" + letter, 1) for letter in "abcdefg"]
        self.assert_taken([lambda ask=ask: ask(plan, run[:good]) for ask in RUNNERS + TEXTS])
        self.assert_refused(BadRun, [lambda ask=ask: ask(plan, run[:bad]) for ask in RUNNERS])
        self.assert_taken([lambda ask=ask: ask(plan, run[:bad]) for ask in TEXTS])

    def test_works_and_parts(self):
        self.found(crowd(19), "crowd", 1, 2)
        self.found(crowd(20), "crowd", 0, 1)
        self.found(Row("x", leaves("abcd")), "x", 2, 3)
        self.found(Bundle("x", leaves("abcdef")), "x", 0, 1)
        self.found(nested(5), "a", 5, 6)
        for plan in (crowd(20), nested(5), Row("x", leaves("abcdef"))):
            self.assert_taken([lambda: read(written(plan)), lambda: Watch(plan), lambda: apart(plan, plan)])
        self.assert_refused(BadWork, [lambda: crowd(21), lambda: nested(6), lambda: Row("x", leaves("abcdefg"))])
        parts = "".join(f"\n  1 leaf {name} 5" for name in "abcdefg")
        self.assert_taken([lambda: read("row x" + parts[:-13])])
        self.assert_refused(BadRows, [lambda: read("row x" + parts), lambda: read(written(crowd(20)) + parts[:13]),
                                      lambda: read(written(nested(5)) + "\n" + "  " * 5 + "1 leaf new 5")])


if __name__ == "__main__":
    unittest.main()
