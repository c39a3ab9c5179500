import copy
import itertools
import random
import unittest

from plain import (
    HUGE, NO_COUNTS, PromiseTests, RefusalCase, Run, no_places, only_way, plain_groups, plain_lightest,
)
from tiewood.keeper import Keeper
from tiewood.lightest import Lightest

# A ring of four places with both ties across it.
RING = [(1, 0, 3), (1, 2, 3), (3, 2, -1), (0, 3, 5), (0, 2, 4), (3, 1, 4)]


def wood_of(kept):
    return [(a, b) for a, b, level, in_wood in kept.ties() if in_wood]


def standing(kept):
    return [(a, b) for a, b, level, in_wood in kept.ties()]


def all_told(kept, n):
    pairs = list(itertools.product(range(n), repeat=2))
    return (
        kept.ties(), kept.account(), kept.weight(), [kept.side(a) for a in range(n)],
        [kept.joined(a, b) for a, b in pairs], [kept.way(a, b) for a, b in pairs],
    )


def every_wood(n, ties):
    size = n - len(plain_groups(n, ties))
    for chosen in itertools.combinations(ties, size):
        if len(plain_groups(n, chosen)) == n - size:
            yield chosen


class AtFirst(RefusalCase):
    def test_no_ties(self):
        for n in (1, 2, 200):
            kept = Lightest(n, [])
            self.assertEqual(kept.ties(), [])
            self.assertEqual(kept.weight(), 0)
            self.assertIs(type(kept.weight()), int)
            self.assertEqual(kept.account(), (0, 0, 0, 0, 0))
            self.assertEqual(kept.side(n - 1), [n - 1])
            self.assertEqual(kept.way(0, 0), [0])
            self.assertIs(kept.joined(0, n - 1), n == 1)

    def test_the_lightest_ties_come_into_the_wood(self):
        kept = Lightest(4, RING)
        self.assertEqual(kept.ties(), [
            (0, 1, 0, True), (0, 2, 0, False), (0, 3, 0, False), (1, 2, 0, True), (1, 3, 0, False), (2, 3, 0, True),
        ])
        self.assertEqual(kept.weight(), 5)
        self.assertEqual(kept.account(), (6, 0, 0, 0, 6))

    def test_the_order_of_the_list_is_all_the_same(self):
        for weighed in itertools.permutations(RING):
            kept = Lightest(4, list(weighed))
            self.assertEqual(wood_of(kept), [(0, 1), (1, 2), (2, 3)])

    def test_either_place_first(self):
        one = Lightest(4, RING)
        other = Lightest(4, [(b, a, weight) for a, b, weight in RING])
        self.assertEqual(all_told(one, 4), all_told(other, 4))

    def test_alike_weights_go_by_the_ties(self):
        weighed = [(2, 3, 7), (1, 3, 7), (1, 2, 7), (0, 3, 7), (0, 2, 7), (0, 1, 7)]
        self.assertEqual(wood_of(Lightest(4, weighed)), [(0, 1), (0, 2), (0, 3)])
        # As texts 10 would stand ahead of 9.
        weighed = [(9, 10, 1), (0, 10, 1), (0, 9, 1)]
        self.assertEqual(wood_of(Lightest(11, weighed)), [(0, 9), (0, 10)])

    def test_weights_are_compared_as_numbers(self):
        for weights, left in (((9, 10, 11), (1, 2)), ((-9, -10, -11), (0, 1)), ((-1, 0, 1), (1, 2)),
                              ((HUGE, HUGE + 1, HUGE - 1), (0, 2)), ((-HUGE, HUGE, 0), (0, 2))):
            weighed = [(0, 1, weights[0]), (0, 2, weights[1]), (1, 2, weights[2])]
            kept = Lightest(3, weighed)
            with self.subTest(weights=weights):
                self.assertEqual([tie[:2] for tie in kept.ties() if not tie[3]], [left])
                self.assertEqual(kept.weight(), sum(weights) - max(weights))

    def test_two_have_nothing_in_common(self):
        weighed = list(RING)
        one, other = Lightest(4, weighed), Lightest(4, weighed)
        before = all_told(other, 4)
        one.out(2, 3)
        self.assertEqual(all_told(other, 4), before)

    def test_no_tie_is_put_in_later(self):
        self.assertFalse(hasattr(Lightest(2, []), "put"))


class Begin(RefusalCase):
    def test_things_that_are_no_counts(self):
        for thing in NO_COUNTS:
            # It comes ahead of all that is wrong with the list.
            for weighed in ([], [(0, 1, 1)], [(0, 0, 1)], [(0, 500, 1)], [(0, 1, 1), (1, 0, 1)]):
                self.refused("NoCount", Lightest, thing, weighed)

    def test_no_place(self):
        for thing in no_places(3):
            for place in (0, 1, 2, thing):
                self.refused("NoPlace", Lightest, 3, [(thing, place, 1)])
                self.refused("NoPlace", Lightest, 3, [(place, thing, 1)])
        self.refused("NoPlace", Lightest, 200, [(0, 200, 1)])
        # To Python these are the same numbers.
        self.refused("NoPlace", Lightest, 3, [(1, True, 1)])
        self.refused("NoPlace", Lightest, 3, [(0, 1, 1), (False, 1, 1)])

    def test_alike(self):
        for place in range(3):
            self.refused("Alike", Lightest, 3, [(place, place, 1)])
        self.refused("Alike", Lightest, 3, [(0, 1, 1), (1, 1, 1)])

    def test_tied(self):
        for other in ((0, 1, 1), (1, 0, 1), (0, 1, 2), (1, 0, -5)):
            self.refused("Tied", Lightest, 3, [(0, 1, 1), other])
            self.refused("Tied", Lightest, 3, [(1, 0, 1), (1, 2, 3), other])

    def test_the_first_at_fault_in_the_order_of_the_list_tells(self):
        # The lightest one stands last, and yet is not the one that tells.
        faults = {"NoPlace": (0, 3, 5), "Alike": (2, 2, 4), "Tied": (1, 0, 3)}
        for names in itertools.permutations(faults):
            weighed = [(0, 1, 9)] + [faults[name] for name in names]
            self.refused(names[0], Lightest, 3, weighed)
            self.refused(names[0], Lightest, 3, weighed + [(1, 2, 1)])
            self.refused(names[1], Lightest, 3, weighed[:1] + weighed[2:])
        # Of one tuple the places are asked first.
        self.refused("NoPlace", Lightest, 3, [(3, 3, 1)])
        self.refused("NoPlace", Lightest, 3, [(-1, -1, 1)])
        self.refused("Alike", Lightest, 3, [(0, 1, 1), (1, 1, 1), (0, 1, 1)])

    def test_the_list_is_not_changed_where_it_is_refused(self):
        weighed = [(2, 1, 9), (0, 1, 3), (1, 0, 4)]
        before = list(weighed)
        self.refused("Tied", Lightest, 3, weighed)
        self.assertEqual(weighed, before)


class Out(unittest.TestCase):
    def test_the_lightest_one_is_found(self):
        kept = Lightest(4, RING)
        # Both 1-3 and 0-3 can stand for it, and 0-3 weighs more.
        self.assertEqual(kept.out(3, 2), [(0, [3], [], (1, 3))])
        self.assertEqual(kept.weight(), 10)
        self.assertEqual(kept.out(1, 2), [(0, [2], [], (0, 2))])
        self.assertEqual(kept.weight(), 11)
        self.assertEqual(kept.account(), (6, 2, 0, 2, 4))

    def test_the_weight_tells_ahead_of_the_places(self):
        kept = Lightest(4, [(0, 1, 1), (0, 2, 9), (1, 2, 8), (0, 3, 5), (1, 3, 4), (2, 3, 7)])
        self.assertEqual(wood_of(kept), [(0, 1), (1, 3), (2, 3)])
        # As a tie 0-2 stands ahead of 1-2, but it weighs more.
        self.assertEqual(kept.out(2, 3), [(0, [2], [], (1, 2))])
        self.assertEqual(kept.out(1, 3), [(0, [3], [], (0, 3))])

    def test_risen_is_sorted_by_the_ties_alone(self):
        kept = Lightest(8, [
            (0, 1, 3), (1, 2, 2), (2, 3, 1), (3, 4, 10), (4, 5, 1), (5, 6, 1), (6, 7, 1),
            (1, 3, 20), (0, 2, 21), (0, 3, 22), (0, 7, 22), (0, 4, 23),
        ])
        self.assertEqual(kept.out(4, 3), [
            (0, [0, 1, 2, 3], [(0, 1), (0, 2), (0, 3), (1, 2), (1, 3), (2, 3)], (0, 7)),
        ])
        # Behind the found one 0-4 was not looked at; those that rose are found at level 1.
        self.assertIn((0, 4, 0, False), kept.ties())
        self.assertEqual(kept.out(0, 1), [(1, [0], [], (0, 2))])
        self.assertIn((0, 2, 1, True), kept.ties())

    def test_a_tie_beside_the_wood(self):
        kept = Lightest(4, RING)
        left = [tie for tie in kept.ties() if tie[:2] != (0, 3)]
        self.assertEqual(kept.out(3, 0), [])
        self.assertEqual(kept.ties(), left)
        self.assertEqual(kept.weight(), 5)
        self.assertEqual(kept.account(), (6, 0, 0, 1, 5))

    def test_where_none_is_found(self):
        kept = Lightest(5, [(0, 1, 1), (1, 2, 2), (3, 4, -7)])
        self.assertEqual(kept.out(1, 2), [(0, [2], [], None)])
        self.assertIs(kept.joined(0, 2), False)
        self.assertIs(kept.way(0, 2), None)
        self.assertEqual(kept.side(2), [2])
        self.assertEqual(kept.weight(), -6)
        kept.out(0, 1)
        kept.out(4, 3)
        self.assertEqual(kept.weight(), 0)
        self.assertEqual(kept.ties(), [])
        self.assertEqual(kept.account(), (3, 0, 0, 3, 0))

    def test_with_weights_all_alike_it_does_as_a_keeper(self):
        ties = list(itertools.combinations(range(9), 2))[::2]
        keeper, kept = Keeper(9), Lightest(9, [(a, b, 6) for a, b in ties])
        for tie in ties:
            keeper.put(*tie)
        source = random.Random(5)
        while standing(kept):
            tie = source.choice(standing(kept))
            self.assertEqual(kept.out(*tie), keeper.out(*tie))
            self.assertEqual(kept.ties(), keeper.ties())
            self.assertEqual(kept.account(), keeper.account())


def weights_by_chance(source, ties, kind):
    kinds = {
        "few": lambda: source.randrange(3),
        "alike": lambda: 4,
        "negative": lambda: source.randrange(-20, 3),
        "large": lambda: source.choice((-1, 1)) * (HUGE + source.randrange(40)),
        "mixed": lambda: source.choice((0, -1, 1, source.randrange(-9, 100), HUGE, -HUGE, -HUGE + 1)),
    }
    return {tie: kinds[kind]() for tie in ties}


def weighed_by_chance(source, weights):
    weighed = [(*source.sample(tie, 2), weight) for tie, weight in weights.items()]
    return source.sample(weighed, len(weighed))


class ByChance(PromiseTests, unittest.TestCase):
    @classmethod
    def setUpClass(cls):
        cls.deeds = []
        cls.woods = []
        for k, kind in enumerate(("few", "alike", "negative", "large", "mixed")):
            for n in (2, 3, 4, 7, 8, 12, 16, 17):
                cls.go(n, 10 * n + k, kind, 4 * n, n)
            for n in (32, 64):
                cls.go(n, n + k, kind, 4 * n, 3)
        cls.go(200, 41, "few", 330, 3)

    @classmethod
    def go(cls, n, seed, kind, most, reach):
        source = random.Random(seed)
        ties = [(a, b) for a, b in itertools.combinations(range(n), 2) if b - a <= reach]
        ties = source.sample(ties, min(most, len(ties)))
        weights = weights_by_chance(source, ties, kind)
        kept = Lightest(n, weighed_by_chance(source, weights))
        run = Run(n, kept, weights, seed)
        cls.woods.append((n, weights, kept.ties(), kept.weight()))
        for turn in range(min(len(ties), 120)):
            run.out(run.tie_to_take())
            cls.woods.append((n, weights, kept.ties(), kept.weight()))
        cls.deeds += run.deeds

    def test_the_wood_is_the_one_made_anew_of_the_ties_that_stand(self):
        for n, weights, ties, weight in self.woods:
            left = {(a, b): weights[a, b] for a, b, level, in_wood in ties}
            wood = [(a, b) for a, b, level, in_wood in ties if in_wood]
            self.assertEqual(wood, plain_lightest(n, left))
            self.assertEqual(weight, sum(weights[tie] for tie in wood))

    def test_on_the_way_between_the_ends_of_a_tie_beside_the_wood_none_comes_behind_it(self):
        for n, weights, ties, weight in self.woods[::7]:
            wood = [(a, b) for a, b, level, in_wood in ties if in_wood]
            for a, b, level, in_wood in ties:
                if not in_wood:
                    way = only_way(wood, a, b)
                    along = [(min(pair), max(pair)) for pair in zip(way, way[1:])]
                    self.assertTrue(all((weights[tie], tie) < (weights[a, b], (a, b)) for tie in along))

    def test_at_first_all_levels_are_0(self):
        for n, weights, ties, weight in self.woods:
            if len(ties) == len(weights):
                self.assertEqual({level for a, b, level, in_wood in ties}, {0})


class LightestOfAll(unittest.TestCase):
    def test_no_other_wood_is_lighter(self):
        source = random.Random(6)
        for n in (2, 3, 4, 5):
            for turn in range(12):
                ties = list(itertools.combinations(range(n), 2))
                ties = source.sample(ties, source.randint(len(ties) // 2, len(ties)))
                weights = weights_by_chance(source, ties, source.choice(("few", "negative", "mixed")))
                kept = Lightest(n, weighed_by_chance(source, weights))
                while True:
                    sums = [sum(weights[tie] for tie in wood) for wood in every_wood(n, standing(kept))]
                    self.assertEqual(kept.weight(), min(sums))
                    if not standing(kept):
                        break
                    kept.out(*source.choice(standing(kept)))


class OrderAlone(unittest.TestCase):
    def test_other_weights_in_the_same_order_give_the_same_wood(self):
        source = random.Random(7)
        for n in (3, 6, 9, 16):
            for kind in ("few", "negative", "large", "mixed"):
                ties = source.sample(list(itertools.combinations(range(n), 2)), n * (n - 1) // 3)
                weights = weights_by_chance(source, ties, kind)
                ranks = sorted(set(weights.values()))
                others = [
                    {tie: ranks.index(weights[tie]) for tie in ties},
                    {tie: 3 * weights[tie] - 11 for tie in ties},
                    {tie: weights[tie] ** 3 for tie in ties} if kind != "large" and kind != "mixed" else weights,
                ]
                kept = Lightest(n, weighed_by_chance(source, weights))
                more = [Lightest(n, weighed_by_chance(source, each)) for each in others]
                while standing(kept):
                    for each in more:
                        self.assertEqual(each.ties(), kept.ties())
                        self.assertEqual(each.account(), kept.account())
                    tie = source.choice(wood_of(kept))
                    trail = kept.out(*tie)
                    self.assertTrue(all(each.out(*tie) == trail for each in more))


class Refusals(RefusalCase):
    def setUp(self):
        self.kept = Lightest(4, RING[:5])
        self.kept.out(0, 1)
        self.before = all_told(self.kept, 4)
        self.ties = standing(self.kept)

    def tearDown(self):
        # What is refused changes nothing, not even what comes later.
        self.assertEqual(all_told(self.kept, 4), self.before)
        other = Lightest(4, RING[:5])
        other.out(0, 1)
        for a, b in self.ties:
            self.assertEqual(self.kept.out(a, b), other.out(a, b))
            self.assertEqual(all_told(self.kept, 4), all_told(other, 4))

    def test_taking_out(self):
        for thing in no_places(4):
            for place in (0, 1, 2, 3, thing):
                self.refused("NoPlace", self.kept.out, thing, place)
                self.refused("NoPlace", self.kept.out, place, thing)
        self.refused("NoPlace", self.kept.out, True, 2)
        for place in range(4):
            self.refused("Alike", self.kept.out, place, place)
        for a, b in ((0, 1), (1, 0), (1, 3), (3, 1)):
            self.refused("NoTie", self.kept.out, a, b)

    def test_questions(self):
        for thing in no_places(4):
            self.refused("NoPlace", self.kept.side, thing)
            for place in (0, 1, 2, 3, thing):
                for ask in (self.kept.joined, self.kept.way):
                    self.refused("NoPlace", ask, thing, place)
                    self.refused("NoPlace", ask, place, thing)


class HandedInAndTold(unittest.TestCase):
    def test_the_list_handed_in_is_not_changed(self):
        weighed = [(3, 1, 4), (0, 1, 3), (2, 1, 3), (0, 2, -9)]
        before = list(weighed)
        kept = Lightest(4, weighed)
        all_told(kept, 4)
        kept.out(0, 2)
        kept.out(1, 3)
        self.assertEqual(weighed, before)

    def test_the_list_handed_in_may_be_changed_later(self):
        weighed = list(RING)
        kept, other = Lightest(4, weighed), Lightest(4, list(RING))
        weighed[0] = (0, 1, 1000)
        weighed.pop()
        weighed.reverse()
        self.assertEqual(all_told(kept, 4), all_told(other, 4))
        weighed.clear()
        for a, b in standing(other):
            self.assertEqual(kept.out(a, b), other.out(a, b))
            self.assertEqual(all_told(kept, 4), all_told(other, 4))

    ASKED = {
        "trail": lambda kept: kept.out(2, 3),
        "ties": lambda kept: kept.ties(),
        "side": lambda kept: kept.side(3),
        "way": lambda kept: kept.way(3, 0),
        "way to itself": lambda kept: kept.way(2, 2),
    }

    def test_what_is_done_to_a_told_list_changes_nothing(self):
        for name, ask in self.ASKED.items():
            with self.subTest(name=name):
                kept, other = Lightest(4, RING), Lightest(4, RING)
                told = ask(kept)
                ask(other)
                for part in [part for each in told if isinstance(each, tuple) for part in each]:
                    if isinstance(part, list):
                        part.append("more")
                told.append("more")
                told[0] = "other"
                self.assertEqual(all_told(kept, 4), all_told(other, 4))
                for a, b in standing(other):
                    self.assertEqual(kept.out(a, b), other.out(a, b))
                    self.assertEqual(all_told(kept, 4), all_told(other, 4))

    def test_what_is_done_or_asked_later_changes_nothing_told(self):
        for name, ask in self.ASKED.items():
            with self.subTest(name=name):
                kept = Lightest(4, RING)
                told = ask(kept)
                before = copy.deepcopy(told)
                all_told(kept, 4)
                for a, b in standing(kept):
                    kept.out(a, b)
                    self.assertEqual(told, before)


if __name__ == "__main__":
    unittest.main()
