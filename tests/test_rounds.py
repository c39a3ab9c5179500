import itertools
import random
import unittest

from plain import every_round, every_small_round, every_tree, is_tree, only_way, random_round, random_tree, ties_of_row
from tiewood.rounds import is_round, parted, spliced, turned, way_in

HUGE = 10 ** 299 + 7
# Places that are far apart and in no order; 0 is among them.
FAR = (700, 3, HUGE, 0, 10 ** 20, 65, 10 ** 150, 1000)

WAY = [0, 1, 2, 3, 2, 1, 0]
STAR = [4, 0, 4, 2, 4, 1, 4, 3, 4]
# The ties of this one: 0-2, 2-5, 2-1, 0-4, 4-3.
MIXED = [0, 2, 5, 2, 1, 2, 0, 4, 3, 4, 0]

NO_ROUNDS = {
    "an even length": ([0, 1], [3, 3], [0, 1, 2, 1], [0, 1, 0, 1], [0, 1, 0, 0]),
    "another last place": ([0, 1, 2], [5, 6, 5, 6, 7], [0, 1, 2, 1, 3], [1, 0, 1, 2, 0]),
    "a ring": ([0, 1, 2, 0], [0, 1, 2, 3, 0], [0, 1, 2, 0, 2, 1, 0], [0, 1, 2, 3, 0, 3, 2, 1, 0]),
    "a ring and a tie gone along both ways": ([0, 1, 2, 3, 0, 2, 0], [0, 1, 2, 3, 0, 4, 0], [4, 0, 1, 2, 0, 4]),
    "a tie gone along twice the same way": ([0, 1, 2, 0, 1, 2, 0], [0, 1, 0, 2, 1, 0, 1], [0, 1, 2, 3, 0, 1, 0]),
    "a tie gone along four times": ([0, 1, 0, 1, 0], [0, 1, 2, 1, 2, 1, 0], [0, 1, 0, 2, 0, 1, 0]),
    "a place twice together": ([0, 0, 0], [0, 0, 1, 0, 0], [0, 0, 1, 1, 0], [0, 1, 1, 1, 0], [0, 1, 1, 0, 0]),
    "a tie gone along just once": ([0, 1, 2, 1, 3, 1, 2], [0, 1, 2, 0, 3, 2, 0]),
}


def renamed(thing, places):
    # The numbers are made anew each time, so that like ones are not the very same object.
    if isinstance(thing, int):
        return int(str(places[thing]))
    return thing.__class__(renamed(each, places) for each in thing)


def is_round_by_the_words(row):
    steps = list(zip(row, row[1:]))
    ties = ties_of_row(row)
    if row[0] != row[-1] or any(a == b for a, b in steps) or not is_tree(set(row), ties):
        return False
    return all(steps.count((a, b)) == 1 and steps.count((b, a)) == 1 for a, b in ties)


def turned_by_the_words(row, a):
    k = min(number for number, place in enumerate(row) if place == a)
    return [row[number] for number in range(k, len(row))] + [row[number] for number in range(1, k + 1)]


def spliced_by_the_words(row, other, a, b):
    k = min(number for number, place in enumerate(row) if place == a)
    upto = [row[number] for number in range(0, k + 1)]
    onward = [row[number] for number in range(k, len(row))]
    return upto + turned_by_the_words(other, b) + onward


def parted_by_the_words(row, a, b):
    k, m = [number for number in range(len(row) - 1) if {row[number], row[number + 1]} == {a, b}]
    one = [row[number] for number in range(k + 1, m + 1)]
    other = [row[number] for number in range(0, k + 1)] + [row[number] for number in range(m + 2, len(row))]
    return (one, other) if a in one else (other, one)


def long_rounds():
    source = random.Random(11)
    chain = list(range(500))
    yield chain + chain[-2::-1]
    star = [0]
    for place in range(1, 500):
        star += [place, 0]
    yield star
    for k in (20, 200, 500):
        places = source.sample(range(10 ** 6), k)
        ties = random_tree(source, places)
        yield random_round(source, ties, places[0])


class IsRound(unittest.TestCase):
    def test_one_place(self):
        for place in (0, 1, 256, 1000, HUGE):
            self.assertIs(is_round([place]), True)

    def test_ways_stars_and_mixed_trees(self):
        for row in ([0, 1, 0], [1, 0, 1], WAY, [1, 0, 1, 2, 3, 2, 1], STAR, [0, 4, 2, 4, 1, 4, 3, 4, 0], MIXED):
            with self.subTest(row=row):
                self.assertIs(is_round(row), True)

    def test_what_is_no_round(self):
        for fault, rows in NO_ROUNDS.items():
            for row in rows:
                with self.subTest(fault=fault, row=row):
                    self.assertIs(is_round_by_the_words(row), False)
                    self.assertIs(is_round(row), False)

    def test_places_of_any_size(self):
        for row in ([0, 1, 0], WAY, STAR, MIXED):
            self.assertIs(is_round(renamed(row, FAR)), True)
        for row in itertools.chain.from_iterable(NO_ROUNDS.values()):
            self.assertIs(is_round(renamed(row, FAR)), False)

    def test_every_short_row(self):
        rounds = set()
        for k in range(1, 5):
            for places in itertools.combinations(range(4), k):
                for ties in every_tree(places):
                    for a in places:
                        rounds |= {tuple(row) for row in every_round(ties, a)}
        for length in range(1, 8):
            for row in itertools.product(range(4), repeat=length):
                self.assertIs(is_round(list(row)), row in rounds, row)

    def test_every_small_round_and_what_is_near_it(self):
        source = random.Random(5)
        for row, ties in every_small_round(5):
            self.assertIs(is_round(row), True, row)
            self.assertEqual(len(row), 2 * len(ties) + 1)
            near = list(row)
            near[source.randrange(len(row))] = source.randrange(6)
            self.assertIs(is_round(near), is_round_by_the_words(near), near)
            near = row[:]
            place = source.randrange(len(row))
            near[place:place] = source.choices(range(5), k=2)
            self.assertIs(is_round(near), is_round_by_the_words(near), near)

    def test_long_rounds(self):
        for row in long_rounds():
            self.assertIs(is_round(row), True)
            self.assertIs(is_round(row[:-1]), False)
            self.assertIs(is_round(row[1:]), False)
            self.assertIs(is_round(row + row[1:3]), False)


class Turned(unittest.TestCase):
    def test_one_place(self):
        self.assertEqual(turned([9], 9), [9])

    def test_by_hand(self):
        self.assertEqual(turned(WAY, 2), [2, 3, 2, 1, 0, 1, 2])
        self.assertEqual(turned(WAY, 3), [3, 2, 1, 0, 1, 2, 3])
        self.assertEqual(turned(STAR, 1), [1, 4, 3, 4, 0, 4, 2, 4, 1])
        self.assertEqual(turned(MIXED, 4), [4, 3, 4, 0, 2, 5, 2, 1, 2, 0, 4])

    def test_to_its_first_place_it_is_the_same_round(self):
        for row in ([9], WAY, STAR, MIXED):
            self.assertEqual(turned(row, row[0]), row)

    def test_every_small_round(self):
        for row, ties in every_small_round(5):
            for a in set(row):
                told = turned(row, a)
                self.assertEqual(told, turned_by_the_words(row, a), (row, a))
                self.assertTrue(is_round_by_the_words(told), (row, a))
                self.assertEqual((told[0], ties_of_row(told)), (a, ties), (row, a))

    def test_places_of_any_size(self):
        for row in ([6], WAY, STAR, MIXED):
            for a in set(row):
                self.assertEqual(turned(renamed(row, FAR), renamed(a, FAR)), renamed(turned(row, a), FAR))

    def test_long_rounds(self):
        for row in long_rounds():
            for a in row[:50] + row[-50:]:
                self.assertEqual(turned(row, a), turned_by_the_words(row, a))


class Spliced(unittest.TestCase):
    def check(self, row, other, a, b):
        told = spliced(row, other, a, b)
        where = (row, other, a, b, told)
        self.assertEqual(told, spliced_by_the_words(row, other, a, b), where)
        self.assertTrue(is_round_by_the_words(told), where)
        ties = ties_of_row(row) + ties_of_row(other) + [(min(a, b), max(a, b))]
        self.assertEqual(ties_of_row(told), sorted(ties), where)

    def test_single_places(self):
        self.assertEqual(spliced([0], [1], 0, 1), [0, 1, 0])
        self.assertEqual(spliced([1], [0], 1, 0), [1, 0, 1])
        self.assertEqual(spliced([7], [0, 1, 0], 7, 1), [7, 1, 0, 1, 7])
        self.assertEqual(spliced([0, 1, 0], [7], 1, 7), [0, 1, 7, 1, 0])

    def test_by_hand(self):
        self.assertEqual(spliced([0, 1, 0, 2, 0], [5, 6, 5], 0, 5), [0, 5, 6, 5, 0, 1, 0, 2, 0])
        self.assertEqual(spliced([0, 1, 0, 2, 0], [5, 6, 5], 2, 6), [0, 1, 0, 2, 6, 5, 6, 2, 0])
        self.assertEqual(spliced([5, 6, 5], [0, 1, 0, 2, 0], 6, 1), [5, 6, 1, 0, 2, 0, 1, 6, 5])

    def test_small_rounds(self):
        # They are named so that the places of the one stand between those of the other.
        rounds = [renamed(row, (2, 5, 8)) for row, ties in every_small_round(3)]
        others = [renamed(row, (0, 3, 6, 9)) for row, ties in every_small_round(4)][::4]
        for row, other in itertools.product(rounds, others):
            for a, b in itertools.product(set(row), set(other)):
                self.check(row, other, a, b)
                self.check(other, row, b, a)

    def test_places_of_any_size(self):
        for a in (0, 2, 4, 6):
            for b in (1, 3, 5):
                row, other = [0, 4, 2, 4, 0, 6, 0], [3, 5, 3, 1, 3]
                told = spliced(renamed(row, FAR), renamed(other, FAR), renamed(a, FAR), renamed(b, FAR))
                self.assertEqual(told, renamed(spliced_by_the_words(row, other, a, b), FAR))


class Parted(unittest.TestCase):
    def check(self, row, ties, a, b):
        told = parted(row, a, b)
        where = (row, a, b, told)
        self.assertIs(type(told), tuple, where)
        self.assertEqual(told, parted_by_the_words(row, a, b), where)
        self.assertIn(a, told[0], where)
        self.assertIn(b, told[1], where)
        self.assertTrue(all(is_round_by_the_words(each) for each in told), where)
        left = [tie for tie in ties if tie != (min(a, b), max(a, b))]
        self.assertEqual(sorted(ties_of_row(told[0]) + ties_of_row(told[1])), left, where)
        self.assertEqual(set(told[0]) | set(told[1]), set(row), where)

    def test_two_places(self):
        self.assertEqual(parted([0, 1, 0], 0, 1), ([0], [1]))
        self.assertEqual(parted([0, 1, 0], 1, 0), ([1], [0]))
        self.assertEqual(parted([1, 0, 1], 0, 1), ([0], [1]))
        self.assertEqual(parted([1, 0, 1], 1, 0), ([1], [0]))

    def test_by_hand(self):
        self.assertEqual(parted(WAY, 1, 2), ([0, 1, 0], [2, 3, 2]))
        self.assertEqual(parted(WAY, 2, 1), ([2, 3, 2], [0, 1, 0]))
        self.assertEqual(parted(WAY, 0, 1), ([0], [1, 2, 3, 2, 1]))
        self.assertEqual(parted(STAR, 4, 1), ([4, 0, 4, 2, 4, 3, 4], [1]))
        self.assertEqual(parted(MIXED, 0, 2), ([0, 4, 3, 4, 0], [2, 5, 2, 1, 2]))
        self.assertEqual(parted(MIXED, 4, 0), ([4, 3, 4], [0, 2, 5, 2, 1, 2, 0]))

    def test_every_small_round(self):
        for row, ties in every_small_round(5):
            for a, b in ties:
                self.check(row, ties, a, b)
                self.check(row, ties, b, a)

    def test_what_was_spliced_is_parted_again(self):
        for row, ties in every_small_round(3):
            for a in set(row):
                for b in (3, 4, 5):
                    other = [4, 3, 4, 5, 4]
                    told = spliced(row, other, a, b)
                    self.assertEqual(parted(told, a, b), (row, turned(other, b)))
                    self.assertEqual(parted(told, b, a), (turned(other, b), row))

    def test_places_of_any_size(self):
        for row in (WAY, STAR, MIXED):
            for tie in ties_of_row(row):
                for a, b in (tie, tie[::-1]):
                    told = parted(renamed(row, FAR), renamed(a, FAR), renamed(b, FAR))
                    self.assertEqual(told, renamed(parted_by_the_words(row, a, b), FAR))

    def test_long_rounds(self):
        for row in long_rounds():
            for a, b in list(zip(row, row[1:]))[::37]:
                self.assertEqual(parted(row, a, b), parted_by_the_words(row, a, b))


class WayIn(unittest.TestCase):
    def test_a_place_and_itself(self):
        self.assertEqual(way_in([3], 3, 3), [3])
        for row in (WAY, STAR, MIXED):
            for a in set(row):
                self.assertEqual(way_in(row, a, a), [a])

    def test_by_hand(self):
        self.assertEqual(way_in(WAY, 0, 3), [0, 1, 2, 3])
        self.assertEqual(way_in(WAY, 3, 1), [3, 2, 1])
        self.assertEqual(way_in(STAR, 3, 0), [3, 4, 0])
        self.assertEqual(way_in(STAR, 4, 3), [4, 3])
        self.assertEqual(way_in(MIXED, 5, 3), [5, 2, 0, 4, 3])
        self.assertEqual(way_in(MIXED, 3, 1), [3, 4, 0, 2, 1])

    def test_every_two_places_of_every_small_round(self):
        for row, ties in every_small_round(5):
            for a, b in itertools.product(set(row), repeat=2):
                self.assertEqual(way_in(row, a, b), only_way(ties, a, b), (row, a, b))

    def test_places_of_any_size(self):
        for row in ([5], WAY, STAR, MIXED):
            for a, b in itertools.product(set(row), repeat=2):
                told = way_in(renamed(row, FAR), renamed(a, FAR), renamed(b, FAR))
                self.assertEqual(told, renamed(only_way(ties_of_row(row), a, b), FAR))

    def test_long_rounds(self):
        for row in long_rounds():
            ties = ties_of_row(row)
            for a, b in zip(row[::97], row[::-83]):
                self.assertEqual(way_in(row, a, b), only_way(ties, a, b))


ASKED = {
    "is_round": lambda row, other: is_round(row),
    "turned": lambda row, other: turned(row, 4),
    "turned to its first place": lambda row, other: turned(row, 0),
    "spliced": lambda row, other: spliced(row, other, 2, 8),
    "spliced at both first places": lambda row, other: spliced(row, other, 0, 9),
    "spliced to a single place": lambda row, other: spliced(row, other[:1], 3, 9),
    "parted": lambda row, other: parted(row, 2, 0),
    "way_in": lambda row, other: way_in(row, 5, 3),
    "way_in to itself": lambda row, other: way_in(row, 0, 0),
}
OTHER = [9, 8, 9, 7, 9]


def lists_of(told):
    return [each for each in (told if isinstance(told, tuple) else [told]) if isinstance(each, list)]


class HandedInAndTold(unittest.TestCase):
    def test_the_rounds_handed_in_stay_as_they_were(self):
        for name, ask in ASKED.items():
            with self.subTest(name=name):
                row, other = list(MIXED), list(OTHER)
                ask(row, other)
                self.assertEqual((row, other), (MIXED, OTHER))

    def test_what_is_done_to_a_told_list_changes_nothing_else(self):
        for name, ask in ASKED.items():
            for k in range(len(lists_of(ask(MIXED, OTHER)))):
                with self.subTest(name=name, k=k):
                    row, other = list(MIXED), list(OTHER)
                    before = ask(row, other)
                    told = lists_of(ask(row, other))
                    told[k].append("more")
                    told[k][0] = "other"
                    self.assertEqual((row, other), (MIXED, OTHER))
                    self.assertEqual(ask(row, other), before)
                    rest = [each for j, each in enumerate(told) if j != k]
                    self.assertEqual(rest, [each for j, each in enumerate(lists_of(before)) if j != k])

    def test_what_is_done_later_to_a_round_handed_in_changes_nothing_told(self):
        for name, ask in ASKED.items():
            with self.subTest(name=name):
                row, other = list(MIXED), list(OTHER)
                told = ask(row, other)
                before = repr(told)
                row[0] = other[0] = "other"
                self.assertEqual(repr(told), before)
                row.clear()
                other.clear()
                self.assertEqual(repr(told), before)

    def test_a_round_of_one_place_is_told_as_a_new_list(self):
        row = [3]
        for told in (turned(row, 3), way_in(row, 3, 3)):
            told.append("more")
            self.assertEqual(row, [3])


if __name__ == "__main__":
    unittest.main()
