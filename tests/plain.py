"""Plain reckonings that the tests hold the program's answers against; slow, and by other roads than the program's.

Beside them what several tests ask for: refusals, and the promise over all ties that stand."""
import itertools
import random
import types
import unittest

from tiewood import errors

REFUSALS = ("NoCount", "NoPlace", "Alike", "Joined", "Tied", "NoTie", "NoRow", "Fixed")
HUGE = 10 ** 299 + 7
NO_COUNTS = (
    True, False, None, "", "5", "a", [], [5], (), (5,), 0, -1, -5, 201, 202, 1000, HUGE, -HUGE,
)


def no_places(n):
    return (True, False, None, "", "0", "1", "a", [], [0], (), (1,), -1, -2, -n, n, n + 1, 2 * n, HUGE, -HUGE)


def plain_groups(n, ties):
    # By names of groups that are made alike tie by tie.
    name = list(range(n))
    for a, b in ties:
        old, new = name[a], name[b]
        name = [new if each == old else each for each in name]
    return sorted([place for place in range(n) if name[place] == each] for each in set(name))


def simple_ways(ties, a, b):
    # All of them, each made longer place by place as long as it stays simple.
    beside = {}
    for x, y in ties:
        beside.setdefault(x, []).append(y)
        beside.setdefault(y, []).append(x)
    told = []
    begun = [[a]]
    while begun:
        way = begun.pop()
        if way[-1] == b:
            told.append(way)
        else:
            begun.extend(way + [place] for place in beside.get(way[-1], []) if place not in way)
    return told


def only_way(ties, a, b):
    ways = simple_ways(ties, a, b)
    assert len(ways) == 1, (ties, a, b, ways)
    return ways[0]


def is_tree(places, ties):
    return all(len(simple_ways(ties, a, b)) == 1 for a in places for b in places)


def ties_of_row(row):
    return sorted({tuple(sorted(pair)) for pair in zip(row, row[1:])})


def every_tree(places):
    pairs = list(itertools.combinations(sorted(places), 2))
    for ties in itertools.combinations(pairs, len(places) - 1):
        if is_tree(places, ties):
            yield list(ties)


def every_round(ties, a):
    # By the next step that is still free; what comes back to a with all steps gone is a round.
    free = set(ties) | {(y, x) for x, y in ties}
    begun = [([a], free)]
    while begun:
        row, left = begun.pop()
        if not left and row[-1] == a:
            yield row
        begun.extend((row + [y], left - {(x, y)}) for x, y in sorted(left) if x == row[-1])


def every_small_round(most):
    for k in range(1, most + 1):
        for ties in every_tree(range(k)):
            for a in range(k):
                for row in every_round(ties, a):
                    yield row, ties


def random_tree(source, places):
    # Each place is tied to one of those ahead of it in a shuffled row.
    places = source.sample(places, len(places))
    ties = [(source.choice(places[:k]), places[k]) for k in range(1, len(places))]
    return [tuple(sorted(tie)) for tie in ties]


def random_round(source, ties, a):
    left = {}
    for x, y in ties:
        left.setdefault(x, []).append(y)
        left.setdefault(y, []).append(x)
    row, way = [a], [a]
    while way:
        onward = [place for place in left.get(way[-1], []) if place not in way]
        if onward:
            way.append(source.choice(onward))
            left[way[-2]].remove(way[-1])
        else:
            way.pop()
        row.extend(way[-1:])
    return row


def plain_lightest(n, weights):
    # Lightest first, each that joins what has unlike names; weights is a dict: tie -> weight.
    name, wood = list(range(n)), []
    for weight, tie in sorted((weights[tie], tie) for tie in weights):
        old, new = name[tie[0]], name[tie[1]]
        if old != new:
            wood.append(tie)
            name = [new if each == old else each for each in name]
    return sorted(wood)


def plain_top(n):
    return max([i for i in range(20) if 2 ** (i + 1) <= n], default=0)


class PlainKeeper:
    """The words of points 16 to 18 and 22, one by one, over a dict: tie -> [level, in the wood]."""

    def __init__(self, n, weights=()):
        self.n = n
        self.weights = dict(weights)
        self.kept = {}
        for tie in sorted(self.weights, key=self.order):
            self.put(tie)

    def order(self, tie):
        return (self.weights.get(tie, 0), tie)

    def group(self, ties, place):
        return next(group for group in plain_groups(self.n, ties) if place in group)

    def wood(self, level):
        return [tie for tie, (height, in_wood) in self.kept.items() if in_wood and height >= level]

    def ties(self):
        return sorted((a, b, level, in_wood) for (a, b), (level, in_wood) in self.kept.items())

    def put(self, tie):
        in_wood = tie[1] not in self.group(list(self.kept), tie[0])
        self.kept[tie] = [0, in_wood]
        return in_wood

    def out(self, tie):
        level, in_wood = self.kept.pop(tie)
        trail = []
        while in_wood and level >= 0 and not (trail and trail[-1][3]):
            trail.append(self.look(level, tie))
            level -= 1
        return trail

    def look(self, level, tie):
        groups = [(self.group(self.wood(level), place), place) for place in tie]
        side = min(groups, key=lambda each: (len(each[0]), each[1]))[0]
        at_level = sorted((tie for tie in self.kept if self.kept[tie][0] == level), key=self.order)
        beside = [tie for tie in at_level if not self.kept[tie][1] and set(tie) & set(side)]
        risen = [tie for tie in at_level if self.kept[tie][1] and set(tie) <= set(side)]
        found = next((tie for tie in beside if not set(tie) <= set(side)), None)
        risen += beside if found is None else beside[:beside.index(found)]
        for each in risen:
            self.kept[each][0] += 1
        if found:
            self.kept[found][1] = True
        return (level, side, sorted(risen), found)


class PlainAccount:
    """What the deeds so far come to, by the words of points 26 and 27."""

    def __init__(self, n):
        self.top = plain_top(n)
        self.put = self.looked = self.risen = self.lost = self.outs = 0

    def went(self, level, trail):
        for height, side, risen, found in trail:
            self.risen += len(risen)
            self.looked += len(risen) + (found is not None)
        self.lost += self.top - level
        self.outs += 1

    def told(self, ties):
        return (self.put, self.looked, self.risen, self.lost, sum(self.top - level for a, b, level, in_wood in ties))


class RefusalCase(unittest.TestCase):
    def refused(self, name, ask, *things):
        with self.assertRaises(errors.TieError, msg=(name, things)) as taken:
            ask(*things)
        under = [each for each in REFUSALS if isinstance(taken.exception, getattr(errors, each))]
        self.assertEqual(under, [name], things)


class Run:
    """Deeds done to what keeps ties and to the plain reckoning, written down one by one with what stood behind them."""

    def __init__(self, n, kept, weights=(), seed=0):
        self.n = n
        self.kept = kept
        self.plain = PlainKeeper(n, weights)
        self.account = PlainAccount(n)
        self.account.put = len(weights)
        self.source = random.Random(seed)
        self.deeds = []

    def put(self, tie):
        before = self.kept.ties()
        told = self.kept.put(*self.source.sample(tie, 2))
        self.account.put += 1
        self.write("put", tie, before, told, self.plain.put(tie))

    def out(self, tie):
        before = self.kept.ties()
        level = self.plain.kept[tie][0]
        told, asked = self.kept.out(*self.source.sample(tie, 2)), self.plain.out(tie)
        self.account.went(level, asked)
        self.write("out", tie, before, told, asked)

    def write(self, deed, tie, before, told, asked):
        pairs = [tie] + [self.source.choices(range(self.n), k=2) for pair in range(3)]
        kept, plain = self.kept, self.plain.ties()
        self.deeds.append(types.SimpleNamespace(
            n=self.n, deed=deed, tie=tie, told=told, asked=asked, before=before, after=kept.ties(), plain=plain,
            account=kept.account(), plain_account=self.account.told(plain), outs=self.account.outs,
            questions=[(a, b, kept.joined(a, b), kept.way(a, b), kept.side(a)) for a, b in pairs],
        ))

    def tie_to_take(self):
        wood = sorted(self.plain.wood(0))
        highest = max(self.plain.kept[tie][0] for tie in wood)
        high = [tie for tie in wood if self.plain.kept[tie][0] == highest]
        chance = self.source.random()
        if chance < 0.15:
            return self.source.choice(sorted(self.plain.kept))
        if chance < 0.5:
            return self.source.choice(wood)
        return self.source.choice(high) if chance < 0.8 else max(high, key=self.lesser_part)

    def lesser_part(self, tie):
        left = [each for each in self.plain.wood(self.plain.kept[tie][0]) if each != tie]
        return min(len(self.plain.group(left, place)) for place in tie)


class PromiseTests:
    """What point 3 promises, and points 16 to 19, 21 and 27, of the deeds that a test case writes down."""

    def test_each_deed_tells_and_leaves_what_the_words_ask(self):
        for deed in self.deeds:
            self.assertEqual(deed.told, deed.asked, (deed.n, deed.tie))
            self.assertEqual(deed.after, deed.plain)

    def test_kinds(self):
        for deed in self.deeds:
            self.assertIs(type(deed.told), bool if deed.deed == "put" else list)
            self.assertTrue(all(type(level) is int and type(in_wood) is bool for a, b, level, in_wood in deed.after))
            self.assertEqual([type(number) for number in deed.account], [int] * 5)

    def test_no_level_falls_or_goes_above_the_top(self):
        for deed in self.deeds:
            earlier = {(a, b): level for a, b, level, in_wood in deed.before}
            for a, b, level, in_wood in deed.after:
                self.assertTrue(earlier.get((a, b), 0) <= level <= plain_top(deed.n), (a, b, level))

    def test_no_more_than_the_nth_part_of_the_places_is_joined_at_a_level(self):
        for deed in self.deeds:
            for i in range(plain_top(deed.n) + 1):
                joined = plain_groups(deed.n, [(a, b) for a, b, level, in_wood in deed.after if level >= i])
                self.assertLessEqual(max(map(len, joined)), deed.n // 2 ** i)

    def test_the_wood_has_no_ring_and_joins_the_ends_of_each_tie_at_its_level(self):
        for deed in self.deeds:
            for i in range(plain_top(deed.n) + 1):
                wood = [(a, b) for a, b, level, in_wood in deed.after if in_wood and level >= i]
                groups = plain_groups(deed.n, wood)
                # As many ties as the places less the groups: then there is no ring.
                self.assertEqual(len(wood), deed.n - len(groups))
                for a, b, level, in_wood in deed.after:
                    self.assertTrue(level < i or any({a, b} <= set(group) for group in groups), (a, b, level))

    def test_each_tie_looked_at_in_vain_rises_by_one(self):
        for deed in self.deeds:
            if deed.deed == "out":
                rose = [tie for level, side, risen, found in deed.told for tie in risen]
                earlier = {(a, b): level for a, b, level, in_wood in deed.before}
                for a, b, level, in_wood in deed.after:
                    self.assertEqual(level - earlier[a, b], rose.count((a, b)))

    def test_where_no_round_finds_a_tie_no_tie_leaves_the_last_side(self):
        for deed in self.deeds:
            if deed.deed == "out" and deed.told and deed.told[-1][3] is None:
                a, b, joined, way, group = deed.questions[0]
                side = deed.told[-1][1]
                self.assertIs(joined, False)
                self.assertEqual(len({a, b} & set(side)), 1)
                self.assertTrue(all(len({x, y} & set(side)) != 1 for x, y, level, in_wood in deed.after))

    def test_a_found_tie_joins_the_two_places_again(self):
        for deed in self.deeds:
            if deed.deed == "out" and (not deed.told or deed.told[-1][3] is not None):
                self.assertIs(deed.questions[0][2], True)

    def test_questions(self):
        for deed in self.deeds:
            groups = plain_groups(deed.n, [(a, b) for a, b, level, in_wood in deed.plain])
            wood = [(a, b) for a, b, level, in_wood in deed.plain if in_wood]
            for a, b, joined, way, side in deed.questions:
                group = next(group for group in groups if a in group)
                self.assertEqual(side, group)
                self.assertIs(joined, b in group)
                self.assertEqual(way, only_way(wood, a, b) if b in group else None)

    def test_the_account(self):
        for deed in self.deeds:
            self.assertEqual(deed.account, deed.plain_account)
            put, looked, risen, lost, credit = deed.account
            self.assertEqual(put * plain_top(deed.n), risen + lost + credit)
            self.assertLessEqual(looked, risen + deed.outs)

    def test_the_deeds_are_of_many_forms(self):
        # A test that meets no such deed would say nothing.
        trails = [deed.told for deed in self.deeds if deed.deed == "out"]
        self.assertIn([], trails)
        self.assertGreater(len([trail for trail in trails if len(trail) > 3]), 10)
        self.assertGreater(len([trail for trail in trails if trail and trail[-1][3] is None]), 10)
        # These find a tie behind a round in vain, with levels left below: there the looking must end.
        self.assertGreater(len([trail for trail in trails if len(trail) > 1 and trail[-1][3] and trail[-1][0]]), 10)
        highest = [max([level for a, b, level, in_wood in deed.after], default=0) for deed in self.deeds]
        self.assertGreater(max(highest), 3)
        self.assertTrue(any(level == plain_top(deed.n) > 1 for level, deed in zip(highest, self.deeds)))
