"""Many runs held against a model that is written anew from the document, as plainly as can be.

The runs are drawn from fixed seeds, so each time they are the same.
"""

import random
import unittest
from fractions import Fraction

from howfar.errors import BadRun, BadWork
from howfar.runs import became, falls, far, told, worth
from howfar.times import left
from tests.model import NAMES, drawn_plan, drawn_telling
from tests.samples import pair, shape

class Model(unittest.TestCase):
    def drawn(self, draw):
        """A plan of the model that is one; what is none is refused by the works as well."""
        while True:
            names = draw.sample(NAMES, len(NAMES))
            model = drawn_plan(draw, names, draw.randint(1, 6))
            if model.fits():
                return model
            with self.assertRaises(BadWork):
                model.work()

    def check_left(self, draw, plan, run, model):
        least = {leaf.name: draw.choice([0, 1, 7, 1000]) for leaf in model.leaves()}
        most = {name: draw.randint(least[name], 1000) for name in least}
        names = draw.sample(list(least), len(least))
        expected = None
        if all(leaf.steps is not None for leaf in model.leaves()):
            expected = model.left(least), model.left(most)
        self.assertEqual(left(plan, run, {name: (least[name], most[name]) for name in names}), expected)

    def check(self, seed, many):
        """Hold a run of so many tellings at the most against the model."""
        draw = random.Random(seed)
        model = self.drawn(draw)
        plan = model.work()
        run, shown, fallen, nearest = [], [Fraction(0)], [], Fraction(0)
        for _ in range(many):
            telling = drawn_telling(draw, model)
            before = model.far()
            if not model.take(telling):
                with self.assertRaises(BadRun) as caught:
                    far(plan, [*run, telling, *run])
                self.assertEqual(caught.exception.place, len(run))
                continue
            run.append(telling)
            now = model.far()
            if now > before:
                nearest = 1 - (1 - nearest) * (1 - now) / (1 - before)
            if now < before:
                fallen.append(len(run) - 1)
            shown.append(nearest)
            self.check_left(draw, plan, run, model)
        self.assertEqual(told(plan, run), [pair(share) for share in shown])
        self.assertEqual(falls(plan, run), fallen)
        self.assertEqual(shape(became(plan, run)), model.shape())
        self.assertEqual(became(plan, run).names(), [node.name for node in model.all()])
        for node in model.all():
            self.assertEqual(far(plan, run, node.name), pair(node.far()))
        for name, share in model.worths().items():
            self.assertEqual(worth(plan, name, run), pair(share))

    def test_many_runs(self):
        for seed in range(600):
            with self.subTest(seed=seed):
                self.check(seed, many=1 + seed * 7 % 40)

    def test_long_runs(self):
        for seed in range(600, 610):
            with self.subTest(seed=seed):
                self.check(seed, many=400)


if __name__ == "__main__":
    unittest.main()
