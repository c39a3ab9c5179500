import copy
import itertools
import unittest

from plain import NO_COUNTS, PromiseTests, RefusalCase, Run, no_places, plain_groups, plain_top
from tiewood.account import looks, rises
from tiewood.keeper import Keeper


def keeper_of(n, ties):
    keeper = Keeper(n)
    for a, b in ties:
        keeper.put(a, b)
    return keeper


def all_told(keeper, n):
    pairs = list(itertools.product(range(n), repeat=2))
    return (
        keeper.ties(), keeper.account(), [keeper.side(a) for a in range(n)],
        [keeper.joined(a, b) for a, b in pairs], [keeper.way(a, b) for a, b in pairs],
    )


# Behind these deeds 3-4 is a wood tie of level 1, and 2-5 can stand for it only at level 0.
STEPS = (
    ("put", 2, 3, True), ("put", 3, 4, True), ("put", 4, 6, True), ("put", 7, 6, True), ("put", 1, 7, True),
    ("put", 0, 1, True), ("put", 5, 7, True), ("put", 2, 1, False),
    ("out", 6, 7, [(0, [2, 3, 4, 6], [(2, 3), (3, 4), (4, 6)], (1, 2))]),
    ("put", 6, 7, False),
    ("out", 7, 1, [(0, [5, 7], [(5, 7)], (6, 7))]),
    ("put", 0, 2, False), ("put", 5, 2, False),
)


def keeper_behind_steps():
    keeper = Keeper(8)
    for deed, a, b, told in STEPS:
        assert (keeper.put if deed == "put" else keeper.out)(a, b) == told, (deed, a, b)
    return keeper


class AtFirst(RefusalCase):
    def test_a_keeper_has_no_ties(self):
        for n in (1, 2, 3, 8, 199, 200):
            keeper = Keeper(n)
            self.assertEqual(keeper.ties(), [])
            self.assertEqual(keeper.account(), (0, 0, 0, 0, 0))
            for a in (0, n // 2, n - 1):
                self.assertEqual(keeper.side(a), [a])
                self.assertIs(keeper.joined(a, a), True)
                self.assertEqual(keeper.way(a, a), [a])
            if n > 1:
                self.assertIs(keeper.joined(0, n - 1), False)
                self.assertIs(keeper.way(n - 1, 0), None)

    def test_things_that_are_no_counts(self):
        for thing in NO_COUNTS:
            self.refused("NoCount", Keeper, thing)

    def test_the_last_places_of_the_least_and_the_greatest_count(self):
        keeper = Keeper(200)
        self.assertIs(keeper.put(199, 0), True)
        self.assertEqual(keeper.side(199), [0, 199])
        self.refused("NoPlace", keeper.put, 200, 0)
        keeper = Keeper(1)
        self.refused("Alike", keeper.put, 0, 0)
        self.refused("NoPlace", keeper.put, 0, 1)

    def test_two_keepers_have_nothing_in_common(self):
        one, other = Keeper(3), Keeper(3)
        one.put(0, 1)
        self.assertEqual(other.ties(), [])
        other.put(0, 1)
        one.out(0, 1)
        self.assertEqual(other.ties(), [(0, 1, 0, True)])
        self.assertEqual(one.account(), (1, 0, 0, 0, 0))


class Put(unittest.TestCase):
    def test_a_tie_comes_into_the_wood_where_its_ends_were_not_joined(self):
        keeper = Keeper(5)
        self.assertIs(keeper.put(0, 1), True)
        self.assertIs(keeper.put(3, 2), True)
        self.assertIs(keeper.put(2, 1), True)
        self.assertIs(keeper.put(0, 3), False)
        self.assertIs(keeper.put(2, 0), False)
        self.assertEqual(
            keeper.ties(), [(0, 1, 0, True), (0, 2, 0, False), (0, 3, 0, False), (1, 2, 0, True), (2, 3, 0, True)]
        )

    def test_a_tie_that_went_is_put_in_anew_with_level_0(self):
        keeper = keeper_behind_steps()
        self.assertIn((2, 3, 1, True), keeper.ties())
        keeper.out(2, 3)
        keeper.put(3, 2)
        self.assertIn((2, 3, 0), [tie[:3] for tie in keeper.ties()])

    def test_every_tie_of_a_count(self):
        keeper = keeper_of(12, itertools.combinations(range(12), 2))
        self.assertEqual(
            keeper.ties(), [(a, b, 0, a == 0) for a, b in itertools.combinations(range(12), 2)]
        )


class Out(unittest.TestCase):
    def test_a_tie_beside_the_wood(self):
        keeper = keeper_of(3, [(0, 1), (1, 2), (0, 2)])
        self.assertEqual(keeper.out(2, 0), [])
        self.assertEqual(keeper.ties(), [(0, 1, 0, True), (1, 2, 0, True)])

    def test_a_tie_beside_the_wood_of_a_higher_level(self):
        keeper = keeper_behind_steps()
        keeper.out(3, 4)
        self.assertIn((0, 2, 1, False), keeper.ties())
        left = [tie for tie in keeper.ties() if tie[:2] != (0, 2)]
        self.assertEqual(keeper.out(0, 2), [])
        self.assertEqual(keeper.ties(), left)

    def test_looking_over_two_rounds(self):
        keeper = keeper_behind_steps()
        self.assertEqual(keeper.out(4, 3), [
            (1, [2, 3], [(2, 3)], None),
            (0, [0, 1, 2, 3], [(0, 1), (0, 2), (1, 2)], (2, 5)),
        ])
        self.assertEqual(keeper.ties(), [
            (0, 1, 1, True), (0, 2, 1, False), (1, 2, 1, True), (2, 3, 2, True), (2, 5, 0, True), (4, 6, 1, True),
            (5, 7, 1, True), (6, 7, 0, True),
        ])

    def test_the_side_with_fewer_places(self):
        for tie, side in (((0, 1), [0]), ((1, 2), [0, 1]), ((2, 3), [3, 4]), ((3, 4), [4])):
            keeper = keeper_of(5, [(k, k + 1) for k in range(4)])
            self.assertEqual([each[1] for each in keeper.out(*tie)], [side])

    def test_of_sides_with_as_many_places_the_one_with_the_lesser_place_of_the_tie(self):
        # 3 is the lesser place of the tie, though the other side has 0.
        for a, b in ((3, 4), (4, 3)):
            keeper = keeper_of(6, [(2, 3), (3, 4), (4, 0)])
            self.assertEqual(keeper.out(a, b), [(0, [2, 3], [(2, 3)], None)])

    def test_the_side_is_reckoned_anew_in_each_round(self):
        keeper = keeper_of(4, [(0, 1), (1, 2), (2, 3), (0, 3)])
        self.assertEqual(keeper.out(1, 2), [(0, [0, 1], [(0, 1)], (0, 3))])
        self.assertEqual(keeper.out(0, 1), [(1, [0], [], None), (0, [1], [], None)])

    def test_those_behind_the_found_one_are_not_looked_at(self):
        keeper = keeper_of(8, [(0, 1), (1, 2), (2, 3), (3, 4), (3, 5), (5, 6), (1, 3), (0, 5), (0, 2)])
        # Of the ties beside the wood 0-2 lies in the side, 0-5 leaves it, and 1-3 comes behind.
        self.assertEqual(keeper.out(2, 3), [(0, [0, 1, 2], [(0, 1), (0, 2), (1, 2)], (0, 5))])
        self.assertIn((0, 5, 0, True), keeper.ties())
        self.assertIn((1, 3, 0, False), keeper.ties())

    def test_risen_ties_beside_the_wood_stay_risen_where_none_is_found(self):
        keeper = keeper_of(6, [(0, 1), (1, 2), (0, 2), (2, 3), (3, 4), (4, 5), (3, 5)])
        self.assertEqual(keeper.out(2, 3), [(0, [0, 1, 2], [(0, 1), (0, 2), (1, 2)], None)])
        self.assertEqual(keeper.ties(), [
            (0, 1, 1, True), (0, 2, 1, False), (1, 2, 1, True), (3, 4, 0, True), (3, 5, 0, False), (4, 5, 0, True),
        ])
        # The wood of level 1 joins just these three, and 0-2 of level 1 is found there.
        self.assertEqual(keeper.out(0, 1), [(1, [0], [], (0, 2))])
        self.assertIn((0, 2, 1, True), keeper.ties())

    def test_the_order_is_that_of_numbers(self):
        # As texts 10 would stand ahead of 9.
        keeper = keeper_of(12, [(0, 1), (1, 9), (1, 10), (0, 10), (0, 9)])
        self.assertEqual(keeper.out(0, 1), [(0, [0], [], (0, 9))])

    def test_a_way_of_two_places(self):
        keeper = keeper_of(2, [(0, 1)])
        self.assertEqual(keeper.out(1, 0), [(0, [0], [], None)])
        self.assertEqual(keeper.ties(), [])
        self.assertIs(keeper.put(0, 1), True)

    def test_a_tie_of_the_top_level(self):
        for n in (4, 8, 16, 64, 128):
            keeper = keeper_of(n, [(k, k + 1) for k in range(n - 1)])
            # The first half of what is left is parted off again and again, till two places are left.
            half = n // 2
            while half > 1:
                keeper.out(half - 1, half)
                half //= 2
            with self.subTest(n=n):
                self.assertEqual(keeper.ties()[0], (0, 1, plain_top(n), True))
                trail = keeper.out(0, 1)
                self.assertEqual(trail, [(level, [0], [], None) for level in range(plain_top(n), -1, -1)])


class Questions(unittest.TestCase):
    def test_by_hand(self):
        keeper = keeper_of(7, [(4, 1), (1, 2), (2, 4), (5, 0)])
        self.assertIs(keeper.joined(2, 4), True)
        self.assertIs(keeper.joined(2, 5), False)
        self.assertIs(keeper.joined(6, 6), True)
        self.assertEqual(keeper.way(2, 4), [2, 1, 4])
        self.assertEqual(keeper.way(4, 2), [4, 1, 2])
        self.assertEqual(keeper.way(3, 3), [3])
        self.assertIs(keeper.way(0, 1), None)
        self.assertEqual(keeper.side(4), [1, 2, 4])
        self.assertEqual(keeper.side(0), [0, 5])
        self.assertEqual(keeper.side(6), [6])
        self.assertEqual(keeper.ties(), [(0, 5, 0, True), (1, 2, 0, True), (1, 4, 0, True), (2, 4, 0, False)])

    def test_a_long_way(self):
        keeper = keeper_of(200, [(k, k + 1) for k in range(199)])
        self.assertEqual(keeper.way(199, 0), list(range(199, -1, -1)))
        self.assertEqual(keeper.side(77), list(range(200)))

    def test_asking_changes_nothing(self):
        keeper = keeper_behind_steps()
        before = all_told(keeper, 8)
        self.assertEqual(all_told(keeper, 8), before)


class Account(unittest.TestCase):
    def test_by_hand(self):
        keeper = keeper_of(8, [(0, 1), (1, 2), (0, 2)])
        self.assertEqual(keeper.account(), (3, 0, 0, 0, 6))
        keeper.out(0, 2)
        self.assertEqual(keeper.account(), (3, 0, 0, 2, 4))
        keeper.out(0, 1)
        self.assertEqual(keeper.account(), (3, 0, 0, 4, 2))

    def test_behind_steps(self):
        keeper = keeper_behind_steps()
        # Taken out were 6-7 and 1-7, both of level 0; four ties rose and two were found.
        self.assertEqual(keeper.account(), (11, 6, 4, 4, 14))
        keeper.out(3, 4)
        # It went with level 1, and so with a credit of 1.
        self.assertEqual(keeper.account(), (11, 11, 8, 5, 9))

    def test_counts_without_higher_levels(self):
        keeper = keeper_of(3, [(0, 1), (1, 2), (0, 2)])
        keeper.out(0, 1)
        self.assertEqual(keeper.account(), (3, 1, 0, 0, 0))


class ByChance(PromiseTests, unittest.TestCase):
    @classmethod
    def setUpClass(cls):
        cls.deeds = []
        for n in range(2, 18):
            cls.go(n, n, 100, n)
        for n, seed in ((8, 31), (16, 32), (16, 33), (32, 34), (40, 35), (64, 36)):
            cls.go(n, seed, 250, 3)
        cls.go(70, 37, 200, 70)
        cls.go(200, 38, 250, 4)

    @classmethod
    def go(cls, n, seed, count, reach):
        run = Run(n, Keeper(n), seed=seed)
        # Ties between near places make long ways, which are parted into great sides.
        ties = [(a, b) for a, b in itertools.combinations(range(n), 2) if b - a <= reach]
        for turn in range(count):
            free = [tie for tie in ties if tie not in run.plain.kept]
            share = 0.85 if turn < count // 2 else 0.4
            if not run.plain.kept or free and run.source.random() < share:
                run.put(run.source.choice(free))
            else:
                run.out(run.tie_to_take())
        cls.deeds += run.deeds


class Refusals(RefusalCase):
    def setUp(self):
        self.keeper = keeper_behind_steps()
        self.before = all_told(self.keeper, 8)
        self.ties = [(a, b) for a, b, level, in_wood in self.keeper.ties()]

    def tearDown(self):
        # What is refused changes nothing, not even what comes later.
        self.assertEqual(all_told(self.keeper, 8), self.before)
        other = keeper_behind_steps()
        for a, b in self.ties:
            self.assertEqual(self.keeper.out(a, b), other.out(a, b))
        self.assertEqual(all_told(self.keeper, 8), all_told(other, 8))

    def test_deeds_with_no_place(self):
        for deed in (self.keeper.put, self.keeper.out):
            for thing in no_places(8):
                for place in range(8):
                    self.refused("NoPlace", deed, thing, place)
                    self.refused("NoPlace", deed, place, thing)

    def test_no_place_comes_ahead_of_alike(self):
        for deed in (self.keeper.put, self.keeper.out):
            for thing, other in itertools.product(no_places(8), repeat=2):
                self.refused("NoPlace", deed, thing, other)
            # To Python these are the same number.
            self.refused("NoPlace", deed, True, 1)
            self.refused("NoPlace", deed, 0, False)

    def test_no_place_comes_ahead_of_what_stands(self):
        # From the end of a list, and as numbers, these would be ties that stand.
        self.refused("NoPlace", self.keeper.put, False, 1)
        self.refused("NoPlace", self.keeper.put, -6, 3)
        self.refused("NoPlace", self.keeper.out, 0, True)
        self.refused("NoPlace", self.keeper.out, 3, -6)

    def test_alike_places(self):
        for place in range(8):
            self.refused("Alike", self.keeper.put, place, place)
            self.refused("Alike", self.keeper.out, place, place)

    def test_putting_what_stands_and_taking_what_does_not(self):
        for a, b in itertools.permutations(range(8), 2):
            if (min(a, b), max(a, b)) in self.ties:
                self.refused("Tied", self.keeper.put, a, b)
            else:
                self.refused("NoTie", self.keeper.out, a, b)

    def test_questions_with_no_place(self):
        for thing in no_places(8):
            self.refused("NoPlace", self.keeper.side, thing)
            for ask in (self.keeper.joined, self.keeper.way):
                self.refused("NoPlace", ask, thing, thing)
                for place in range(8):
                    self.refused("NoPlace", ask, thing, place)
                    self.refused("NoPlace", ask, place, thing)


class RefusalsBehindDeeds(RefusalCase):
    def test_what_went_is_not_taken_out_again(self):
        keeper = keeper_of(3, [(0, 1), (1, 2), (0, 2)])
        keeper.out(0, 2)
        self.refused("NoTie", keeper.out, 0, 2)
        keeper.out(0, 1)
        self.refused("NoTie", keeper.out, 1, 0)
        keeper.put(1, 0)
        self.refused("Tied", keeper.put, 0, 1)

    def test_like_places_that_are_not_the_same_object(self):
        keeper = Keeper(200)
        for place in ("7", "199"):
            self.refused("Alike", keeper.put, int(place), int(place))


class Told(unittest.TestCase):
    ASKED = {
        "trail": lambda keeper: keeper.out(3, 4),
        "ties": lambda keeper: keeper.ties(),
        "side": lambda keeper: keeper.side(4),
        "way": lambda keeper: keeper.way(4, 0),
        "way to itself": lambda keeper: keeper.way(5, 5),
    }

    def test_what_is_done_to_a_told_list_changes_nothing(self):
        for name, ask in self.ASKED.items():
            with self.subTest(name=name):
                keeper, other = keeper_behind_steps(), keeper_behind_steps()
                told = ask(keeper)
                ask(other)
                for part in [part for each in told if isinstance(each, tuple) for part in each]:
                    if isinstance(part, list):
                        part.append("more")
                        part[0] = "other"
                told.append("more")
                told[0] = "other"
                self.assertEqual(all_told(keeper, 8), all_told(other, 8))
                for a, b, level, in_wood in other.ties():
                    self.assertEqual(keeper.out(a, b), other.out(a, b))
                    self.assertEqual(all_told(keeper, 8), all_told(other, 8))

    def test_what_is_done_or_asked_later_changes_nothing_told(self):
        for name, ask in self.ASKED.items():
            with self.subTest(name=name):
                keeper = keeper_behind_steps()
                told = ask(keeper)
                before = copy.deepcopy(told)
                all_told(keeper, 8)
                keeper.put(0, 7)
                for a, b, level, in_wood in keeper.ties():
                    keeper.out(a, b)
                    self.assertEqual(told, before)

    def test_trails_spoiled_by_the_asker_spoil_no_account(self):
        keeper, other = keeper_behind_steps(), keeper_behind_steps()
        risen = looked = 0
        for a, b, level, in_wood in other.ties():
            trail = other.out(a, b)
            risen += rises(trail)
            looked += looks(trail)
            for height, side, rose, found in keeper.out(a, b):
                side.clear()
                rose.clear()
            self.assertEqual(keeper.account(), other.account())
        self.assertEqual(keeper.account()[1:3], (6 + looked, 4 + risen))
        self.assertEqual([keeper.side(a) for a in range(8)], plain_groups(8, []))


if __name__ == "__main__":
    unittest.main()
