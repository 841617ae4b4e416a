"""Runs of some three hundred steps told one by one: promises 3 to 6 in the long run."""

import unittest
from fractions import Fraction

from howfar.runs import became, falls, far, told, worth
from howfar.showing import bar, few, percent
from howfar.times import left
from howfar.works import Leaf, Row
from tests.samples import house, pair, shape


def steps(name, many):
    """So many steps told one by one."""
    return [("did", name, 1)] * many


class OneLeaf(unittest.TestCase):
    plan = Leaf("a", 300)
    deeds = steps("a", 300)

    def test_each_step(self):
        for many in range(301):
            run = self.deeds[:many]
            self.assertEqual(far(self.plan, run), pair(Fraction(many, 300)))
            self.assertEqual(left(self.plan, run, {"a": (2, 5)}), (2 * (300 - many), 5 * (300 - many)))
            self.assertEqual(worth(self.plan, "a", run), (1, 1))

    def test_all_told(self):
        self.assertEqual(told(self.plan, self.deeds), [pair(Fraction(many, 300)) for many in range(301)])
        self.assertEqual(falls(self.plan, self.deeds), [])

    def test_shown(self):
        shares = told(self.plan, self.deeds)
        self.assertEqual(few(shares, (0, 1)), list(range(301)))
        self.assertEqual(few(shares, (1, 100)), list(range(0, 301, 4)))
        self.assertEqual(few(shares, (1, 1)), [0])
        for many, share in enumerate(shares):
            self.assertEqual(percent(share), f"{many // 3} in 100")
            self.assertEqual(bar(share, 100), "#" * (many // 3) + "." * (100 - many // 3))


class StepsKnownLater(unittest.TestCase):
    plan = Leaf("a")
    deeds = [*steps("a", 150), ("knows", "a", 300), *steps("a", 150)]

    def test_each_step(self):
        for many in range(302):
            run, done = self.deeds[:many], many - (many > 150)
            known = many > 150
            self.assertEqual(far(self.plan, run), pair(Fraction(done, 300)) if known else (0, 1))
            self.assertEqual(left(self.plan, run, {"a": (0, 7)}), (0, 7 * (300 - done)) if known else None)

    def test_all_told(self):
        shares = [(0, 1)] * 151 + [pair(Fraction(done, 300)) for done in range(150, 301)]
        self.assertEqual(told(self.plan, self.deeds), shares)
        self.assertEqual(falls(self.plan, self.deeds), [])


class FoundLater(unittest.TestCase):
    plan = Row("x", [(1, Leaf("a", 100))])
    deeds = [*steps("a", 50), ("found", "x", 1, "b", 200), *steps("b", 200), *steps("a", 50)]

    def fars(self):
        fars = [Fraction(done, 100) for done in range(51)]
        fars += [Fraction(1, 4) + Fraction(done, 400) for done in range(201)]
        return fars + [Fraction(3, 4) + Fraction(done, 200) for done in range(1, 51)]

    def test_each_step(self):
        for many, share in enumerate(self.fars()):
            self.assertEqual(far(self.plan, self.deeds[:many]), pair(share))

    def test_all_told(self):
        # Behind the finding a half was lacking of what is told, and 3/4 of the plan.
        fars = self.fars()
        shares = fars[:51] + [1 - Fraction(2, 3) * (1 - share) for share in fars[51:]]
        self.assertEqual(told(self.plan, self.deeds), [pair(share) for share in shares])
        self.assertEqual(falls(self.plan, self.deeds), [50])

    def test_time_left(self):
        for many in range(302):
            undone = 100 - min(many, 50) - max(many - 251, 0)
            paces, least, most = {"a": (1, 3)}, undone, 3 * undone
            if many > 50:
                more = 200 - min(many - 51, 200)
                paces, least, most = {"a": (1, 3), "b": (2, 2)}, least + 2 * more, most + 2 * more
            self.assertEqual(left(self.plan, self.deeds[:many], paces), (least, most))


class BegunAnew(unittest.TestCase):
    plan = Leaf("a", 100)
    deeds = [*steps("a", 60), ("again", "a"), *steps("a", 100), ("again", "a"), *steps("a", 100)]

    def test_all_told(self):
        shares = [Fraction(done, 100) for done in range(61)]
        shares += [1 - Fraction(2, 5) * (1 - Fraction(done, 100)) for done in range(101)]
        shares += [Fraction(1)] * 101
        self.assertEqual(told(self.plan, self.deeds), [pair(share) for share in shares])
        self.assertEqual(falls(self.plan, self.deeds), [60, 161])

    def test_each_step(self):
        done = [*range(61), *range(101), *range(101)]
        for many, each in enumerate(done):
            self.assertEqual(far(self.plan, self.deeds[:many]), pair(Fraction(each, 100)))
            self.assertEqual(left(self.plan, self.deeds[:many], {"a": (9, 9)}), (9 * (100 - each),) * 2)

    def test_many_times(self):
        run = [("did", "a", 50), ("again", "a")] * 150
        shares = told(self.plan, run)
        self.assertEqual(shares[-1], (2**150 - 1, 2**150))
        self.assertEqual(falls(self.plan, run), list(range(1, 300, 2)))
        self.assertEqual((bar(shares[-1]), percent(shares[-1])), ("#" * 19 + ".", "99 in 100"))


class WorksWithinWorks(unittest.TestCase):
    def test_all_at_once(self):
        run = [("knows", "plaster", 150), *steps("plaster", 150), ("found", "inside", 5, "lamps", None),
               *steps("lamps", 150), ("knows", "lamps", 150), ("again", "walls"), *steps("bricks", 4)]
        self.assertEqual(far(house(), run[:151]), (1, 9))
        self.assertEqual(far(house(), run[:303]), (5, 18))
        self.assertEqual(far(house(), run), (1, 2))
        self.assertEqual(falls(house(), run), [303])
        # Behind the fall 13/18 was lacking of what is told, and 5/6 of the plan.
        self.assertEqual(told(house(), run)[-5:], [(5, 18), *[pair(1 - Fraction(13, 15) * (1 - share)) for share in (
            Fraction(1, 6) + Fraction(done, 12) for done in range(1, 5))]])
        self.assertEqual(shape(became(house(), run))[3][1], (4, (
            "row", "walls", None, [(3, ("leaf", "bricks", 4, [])), (1, ("leaf", "plaster", 150, []))])))
        paces = {name: (1, 2) for name in ("ground", "bricks", "plaster", "pipes", "wires", "paint", "lamps")}
        self.assertIsNone(left(house(), run, paces))
        self.assertEqual(left(house(), [*run, ("knows", "paint", 9)], paces), (164, 328))


if __name__ == "__main__":
    unittest.main()
