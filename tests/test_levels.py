import itertools
import random
import unittest

from plain import PlainKeeper, plain_top
from tiewood.levels import Levels


def told_ties(levels):
    return sorted(levels.told(tie) for tie in levels.level_of)


def levels_of(n, ties):
    levels = Levels(n)
    for tie in ties:
        levels.add(tie, 0)
    return levels


class ByHand(unittest.TestCase):
    def test_adding(self):
        levels = Levels(4)
        self.assertEqual([levels.add(tie, 0) for tie in ((0, 1), (2, 3), (1, 2), (0, 3))], [True, True, True, False])
        self.assertEqual(
            told_ties(levels), [(0, 1, 0, True), (0, 3, 0, False), (1, 2, 0, True), (2, 3, 0, True)]
        )

    def test_a_ring_of_four(self):
        levels = levels_of(4, [(0, 1), (1, 2), (2, 3), (0, 3)])
        # Both groups have two places, so the side is the one with 1.
        self.assertEqual(levels.take((1, 2)), [(0, [0, 1], [(0, 1)], (0, 3))])
        self.assertEqual(told_ties(levels), [(0, 1, 1, True), (0, 3, 0, True), (2, 3, 0, True)])
        self.assertEqual(levels.take((0, 1)), [(1, [0], [], None), (0, [1], [], None)])
        self.assertEqual(told_ties(levels), [(0, 3, 0, True), (2, 3, 0, True)])

    def test_a_tie_beside_the_wood(self):
        levels = levels_of(3, [(0, 1), (1, 2), (0, 2)])
        self.assertEqual(levels.take((0, 2)), [])
        self.assertEqual(told_ties(levels), [(0, 1, 0, True), (1, 2, 0, True)])

    def test_lighter_ties_are_looked_at_first(self):
        levels = Levels(4)
        for tie, weight in (((0, 1), 0), ((1, 3), 0), ((0, 2), 0), ((0, 3), 5), ((2, 3), 4), ((1, 2), 4)):
            levels.add(tie, weight)
        self.assertEqual(levels.at_level(0, False), [(1, 2), (2, 3), (0, 3)])
        self.assertEqual(levels.take((1, 3)), [(0, [3], [], (2, 3))])
        self.assertEqual(levels.take((0, 2)), [(0, [0, 1], [(0, 1)], (1, 2))])


class ByChance(unittest.TestCase):
    def check(self, levels, plain):
        self.assertEqual(told_ties(levels), plain.ties())
        self.assertEqual(len(levels.woods), plain_top(plain.n) + 1)
        for level, wood in enumerate(levels.woods):
            self.assertEqual(wood.ties(), sorted(plain.wood(level)))

    def test_the_wood_of_each_level(self):
        for n in (2, 3, 4, 8, 15, 16, 24):
            source = random.Random(n)
            ties = source.sample(list(itertools.combinations(range(n), 2)), min(3 * n, n * (n - 1) // 2))
            levels, plain = Levels(n), PlainKeeper(n)
            for tie in ties:
                self.assertEqual(levels.add(tie, 0), plain.put(tie))
                self.check(levels, plain)
            while plain.kept:
                tie = source.choice(sorted(plain.wood(0)))
                self.assertEqual(levels.take(tie), plain.out(tie))
                self.check(levels, plain)
            self.assertEqual((levels.level_of, levels.wooden, levels.weight_of), ({}, {}, {}))


if __name__ == "__main__":
    unittest.main()
