import copy
import unittest

from tiewood.account import credit, looks, rises
from tiewood.places import top

TIES = [(0, 1, 2, True), (0, 5, 0, False), (1, 2, 0, True), (3, 4, 1, False)]
# Rounds as a taking out tells them: level, side, risen, found.
FINDS_AT_ONCE = [(0, [3], [], (3, 4))]
FINDS_NOTHING = [(1, [2], [], None), (0, [2], [], None)]
RISES_AND_FINDS = [(2, [0, 1], [(0, 1)], None), (1, [4, 5], [], None), (0, [0, 1, 2], [(0, 2), (1, 2)], (2, 7))]
RISES_IN_VAIN = [(1, [6, 7], [(6, 7)], None), (0, [5, 6, 7], [(5, 6), (5, 7)], None)]
# Counted for each round: a tie that stands in two rounds counts twice.
RISES_TWICE = [(1, [0, 1], [(0, 1)], None), (0, [0, 1, 2], [(0, 1), (0, 2), (1, 2)], (0, 3))]


class Credit(unittest.TestCase):
    def test_no_ties(self):
        for n in (1, 2, 3, 4, 8, 200):
            self.assertEqual(credit(n, []), 0)

    def test_one_tie_at_every_level_of_every_count(self):
        for n in range(2, 201):
            highest = max([i for i in range(20) if 2 ** (i + 1) <= n])
            for level in range(highest + 1):
                for in_wood in (True, False):
                    self.assertEqual(credit(n, [(0, 1, level, in_wood)]), highest - level, (n, level))

    def test_all_together(self):
        self.assertEqual(credit(8, TIES), 0 + 2 + 2 + 1)
        self.assertEqual(credit(8, list(reversed(TIES))), 5)
        self.assertEqual(credit(200, TIES), 4 + 6 + 6 + 5)
        self.assertEqual(credit(16, [(0, k, 3, True) for k in range(1, 16)]), 0)
        self.assertEqual(credit(200, [(0, k, 0, True) for k in range(1, 200)]), 199 * 6)

    def test_counts_without_higher_levels(self):
        self.assertEqual(credit(2, [(0, 1, 0, True)]), 0)
        self.assertEqual(credit(3, [(0, 1, 0, True), (0, 2, 0, True), (1, 2, 0, False)]), 0)

    def test_kinds(self):
        for ties in ([], TIES):
            self.assertIs(type(credit(8, ties)), int)

    def test_levels_rise_at_the_cost_of_credit(self):
        for n in (4, 9, 64):
            one = [(0, 1, 0, True), (1, 2, 0, True)]
            other = [(0, 1, top(n), True), (1, 2, 1, True)]
            self.assertEqual(credit(n, one) - credit(n, other), top(n) + 1)


class RisesAndLooks(unittest.TestCase):
    def test_no_rounds(self):
        self.assertEqual(rises([]), 0)
        self.assertEqual(looks([]), 0)

    def test_trails(self):
        for trail, risen, looked in (
            (FINDS_AT_ONCE, 0, 1), (FINDS_NOTHING, 0, 0), (RISES_AND_FINDS, 3, 4), (RISES_IN_VAIN, 3, 3),
            (RISES_TWICE, 4, 5),
        ):
            with self.subTest(trail=trail):
                self.assertEqual(rises(trail), risen)
                self.assertEqual(looks(trail), looked)

    def test_many_ties(self):
        risen = [(0, k) for k in range(1, 150)]
        self.assertEqual(rises([(0, list(range(150)), risen, None)]), 149)
        self.assertEqual(looks([(0, list(range(150)), risen, None)]), 149)
        self.assertEqual(looks([(0, list(range(150)), risen, (0, 199))]), 150)

    def test_kinds(self):
        for trail in ([], FINDS_AT_ONCE, FINDS_NOTHING, RISES_IN_VAIN):
            self.assertIs(type(rises(trail)), int)
            self.assertIs(type(looks(trail)), int)


class HandedIn(unittest.TestCase):
    def test_what_is_handed_in_stays_as_it_was(self):
        ties = copy.deepcopy(TIES)
        credit(8, ties)
        self.assertEqual(ties, TIES)
        for trail in (FINDS_AT_ONCE, FINDS_NOTHING, RISES_AND_FINDS, RISES_TWICE, []):
            handed = copy.deepcopy(trail)
            rises(handed)
            looks(handed)
            self.assertEqual(handed, trail)

    def test_each_answer_hangs_on_what_is_asked_alone(self):
        trail = copy.deepcopy(RISES_AND_FINDS)
        self.assertEqual((rises(trail), looks(trail)), (3, 4))
        trail[0][2].append((0, 9))
        self.assertEqual((rises(trail), looks(trail)), (4, 5))
        trail.clear()
        self.assertEqual((rises(trail), looks(trail)), (0, 0))
        ties = list(TIES)
        self.assertEqual(credit(8, ties), 5)
        ties.pop()
        self.assertEqual(credit(8, ties), 4)


if __name__ == "__main__":
    unittest.main()
