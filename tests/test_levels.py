import itertools
import random
import unittest

from plain import only_way, plain_groups
from tiewood.account import credit, looks, rises
from tiewood.levels import Levels
from tiewood.places import top


class PlainLevels:
    """The words of points 16 to 18, one by one, over a dict: tie -> [level, in the wood]."""

    def __init__(self, n):
        self.n = n
        self.kept = {}

    def group(self, ties, place):
        return next(group for group in plain_groups(self.n, ties) if place in group)

    def wood(self, level):
        return [tie for tie, (height, in_wood) in self.kept.items() if in_wood and height >= level]

    def add(self, tie):
        in_wood = tie[1] not in self.group(list(self.kept), tie[0])
        self.kept[tie] = [0, in_wood]
        return in_wood

    def take(self, tie):
        level, in_wood = self.kept.pop(tie)
        trail = []
        while in_wood and level >= 0 and not (trail and trail[-1][3]):
            trail.append(self.look(level, tie))
            level -= 1
        return trail

    def look(self, level, tie):
        groups = [(self.group(self.wood(level), place), place) for place in tie]
        side = min(groups, key=lambda each: (len(each[0]), each[1]))[0]
        at_level = sorted(tie for tie in self.kept if self.kept[tie][0] == level)
        beside = [tie for tie in at_level if not self.kept[tie][1] and set(tie) & set(side)]
        risen = [tie for tie in at_level if self.kept[tie][1] and set(tie) <= set(side)]
        found = next((tie for tie in beside if not set(tie) <= set(side)), None)
        risen += beside if found is None else beside[:beside.index(found)]
        for each in risen:
            self.kept[each][0] += 1
        if found:
            self.kept[found][1] = True
        return (level, side, sorted(risen), found)


def kept_by(levels):
    return {tie: [levels.level_of[tie], levels.wooden[tie]] for tie in levels.level_of}


def told_ties(levels):
    return sorted((a, b, levels.level_of[a, b], levels.wooden[a, b]) for a, b in levels.level_of)


class Run:
    """Deeds by chance, done to both, with all that the deeds so far came to."""

    def __init__(self, n, seed):
        self.n = n
        self.source = random.Random(seed)
        self.levels = Levels(n)
        self.plain = PlainLevels(n)
        self.put = self.risen = self.looked = self.lost = self.taken = 0

    def free_ties(self):
        return [tie for tie in itertools.combinations(range(self.n), 2) if tie not in self.plain.kept]

    def add(self):
        tie = self.source.choice(self.free_ties())
        self.put += 1
        return self.levels.add(tie), self.plain.add(tie)

    def take(self):
        tie = self.source.choice(sorted(self.plain.wood(0) if self.source.random() < 0.8 else self.plain.kept))
        self.lost += top(self.n) - self.plain.kept[tie][0]
        trail = self.levels.take(tie)
        self.risen += rises(trail)
        self.looked += looks(trail)
        self.taken += 1
        return tie, trail, self.plain.take(tie)


class ByHand(unittest.TestCase):
    def test_adding(self):
        levels = Levels(4)
        self.assertEqual([levels.add(tie) for tie in ((0, 1), (2, 3), (1, 2), (0, 3))], [True, True, True, False])
        self.assertEqual(
            told_ties(levels), [(0, 1, 0, True), (0, 3, 0, False), (1, 2, 0, True), (2, 3, 0, True)]
        )

    def test_a_ring_of_four(self):
        levels = Levels(4)
        for tie in ((0, 1), (1, 2), (2, 3), (0, 3)):
            levels.add(tie)
        # Both groups have two places, so the side is the one with 1.
        self.assertEqual(levels.take((1, 2)), [(0, [0, 1], [(0, 1)], (0, 3))])
        self.assertEqual(told_ties(levels), [(0, 1, 1, True), (0, 3, 0, True), (2, 3, 0, True)])
        self.assertEqual(levels.take((0, 1)), [(1, [0], [], None), (0, [1], [], None)])
        self.assertEqual(told_ties(levels), [(0, 3, 0, True), (2, 3, 0, True)])

    def test_a_tie_beside_the_wood(self):
        levels = Levels(3)
        for tie in ((0, 1), (1, 2), (0, 2)):
            levels.add(tie)
        self.assertEqual(levels.take((0, 2)), [])
        self.assertEqual(told_ties(levels), [(0, 1, 0, True), (1, 2, 0, True)])

    def test_those_behind_the_found_one_are_not_looked_at(self):
        levels = Levels(8)
        for tie in ((0, 1), (1, 2), (2, 3), (3, 4), (3, 5), (5, 6), (1, 3), (0, 5), (0, 2)):
            levels.add(tie)
        # Of the ties beside the wood 0-2 lies in the side, 0-5 leaves it, and 1-3 comes behind.
        self.assertEqual(levels.take((2, 3)), [(0, [0, 1, 2], [(0, 1), (0, 2), (1, 2)], (0, 5))])
        self.assertEqual((levels.level_of[0, 5], levels.wooden[0, 5]), (0, True))
        self.assertEqual((levels.level_of[1, 3], levels.wooden[1, 3]), (0, False))


class ByChance(unittest.TestCase):
    def runs(self):
        for n in range(2, 18):
            for seed in range(4):
                yield Run(n, seed), 60
        yield Run(70, 2), 200

    def long_runs(self):
        for n, seed in ((12, 0), (16, 2), (32, 0), (40, 0), (40, 1)):
            yield Run(n, seed), 600
        yield Run(200, 3), 400

    def turns(self, run, count):
        for turn in range(count):
            full = not run.free_ties()
            # First many ties are put in, then more of them are taken out.
            if not run.plain.kept or not full and run.source.random() < (0.8 if turn < count // 2 else 0.35):
                yield None, *run.add()
            else:
                yield run.take()

    def test_each_deed_tells_and_leaves_what_the_words_ask(self):
        late_finds = 0
        for run, count in itertools.chain(self.runs(), self.long_runs()):
            for tie, told, asked in self.turns(run, count):
                self.assertEqual(told, asked, (run.n, tie))
                self.assertEqual(kept_by(run.levels), run.plain.kept)
                late_finds += bool(tie and len(told) > 1 and told[-1][3] and told[-1][0] > 0)
        # Some find a tie behind a round in vain, with levels left below: there the looking must end.
        self.assertGreater(late_finds, 0)

    def test_the_wood_of_each_level(self):
        for run, count in self.runs():
            for tie, told, asked in self.turns(run, count):
                for level, wood in enumerate(run.levels.woods):
                    self.assertEqual(wood.ties(), sorted(run.plain.wood(level)))
                    size = max(wood.size(place) for place in range(run.n))
                    self.assertLessEqual(size, run.n // 2 ** level)

    def test_levels_stay_between_0_and_the_top_and_never_fall(self):
        for run, count in self.runs():
            before = {}
            for tie, told, asked in self.turns(run, count):
                after = dict(run.levels.level_of)
                self.assertTrue(all(0 <= level <= top(run.n) for level in after.values()))
                self.assertTrue(all(after[each] >= before[each] for each in after if each in before))
                before = after

    def test_a_tie_beside_the_wood_has_its_ends_joined_at_its_level(self):
        for run, count in self.runs():
            for tie, told, asked in self.turns(run, count):
                for (a, b), level in run.levels.level_of.items():
                    self.assertTrue(run.levels.woods[level].joined(a, b))
                for a, b in run.levels.woods[0].ties():
                    self.assertEqual(only_way(run.levels.woods[0].ties(), a, b), [a, b])

    def test_where_none_is_found_no_tie_leaves_the_last_side(self):
        ends = 0
        for run, count in self.runs():
            for tie, told, asked in self.turns(run, count):
                if tie and told and told[-1][3] is None:
                    ends += 1
                    side = set(told[-1][1])
                    self.assertEqual(len(side & set(tie)), 1)
                    self.assertTrue(all(len(side & set(each)) != 1 for each in run.levels.level_of))
        self.assertGreater(ends, 100)

    def test_all_rises_are_paid_for(self):
        for run, count in self.runs():
            for tie, told, asked in self.turns(run, count):
                left = credit(run.n, told_ties(run.levels))
                self.assertEqual(run.put * top(run.n), run.risen + run.lost + left)
                self.assertLessEqual(run.looked, run.risen + run.taken)

    def test_what_is_done_to_a_told_trail_changes_nothing(self):
        for run, count in self.runs():
            for tie, told, asked in self.turns(run, count):
                if tie:
                    for level, side, risen, found in told:
                        side.clear()
                        risen.clear()
                    told.clear()
                self.assertEqual(kept_by(run.levels), run.plain.kept)
                self.assertEqual(run.levels.woods[0].ties(), sorted(run.plain.wood(0)))

    def test_what_is_done_later_changes_no_trail(self):
        for run, count in self.runs():
            trails = []
            for tie, told, asked in self.turns(run, count):
                if tie:
                    trails.append((told, repr(told)))
            self.assertTrue(all(repr(told) == before for told, before in trails))


if __name__ == "__main__":
    unittest.main()
