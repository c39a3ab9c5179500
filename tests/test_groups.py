import itertools
import random
import unittest

from plain import plain_groups
from tiewood.groups import groups, shortest, steps


def all_ties(n):
    return list(itertools.combinations(range(n), 2))


def ring(places):
    return sorted(tuple(sorted(pair)) for pair in zip(places, places[1:] + places[:1]))


def chain(n):
    return [(k, k + 1) for k in range(n - 1)]


def every_small_case():
    for n in range(1, 6):
        ties = all_ties(n)
        for k in range(len(ties) + 1):
            for chosen in itertools.combinations(ties, k):
                yield n, list(chosen)


def larger_cases():
    source = random.Random(7)
    for n in (6, 13, 40, 97, 199, 200):
        ties = all_ties(n)
        for k in (1, n // 3, n // 2, n - 1, n + n // 4, 5 * n):
            k = min(k, len(ties))
            yield n, source.sample(ties, k)
    yield 200, []
    yield 200, chain(200)
    yield 200, list(reversed(chain(200)))
    yield 200, ring(list(range(200)))
    yield 200, [(0, k) for k in range(1, 200)]
    yield 200, [(k, 199) for k in range(199)]
    yield 200, [(k, 199 - k) for k in range(100)]
    yield 45, all_ties(45)


def plain_steps(n, ties, a):
    # By shortening along each tie until nothing changes any more.
    told = [None] * n
    told[a] = 0
    changed = True
    while changed:
        changed = False
        for x, y in ties + [(y, x) for x, y in ties]:
            if told[x] is not None and (told[y] is None or told[y] > told[x] + 1):
                told[y] = told[x] + 1
                changed = True
    return told


class Groups(unittest.TestCase):
    def test_no_ties(self):
        self.assertEqual(groups(4, []), [[0], [1], [2], [3]])
        self.assertEqual(groups(200, []), [[place] for place in range(200)])

    def test_one_place(self):
        self.assertEqual(groups(1, []), [[0]])

    def test_ties_that_join_all(self):
        self.assertEqual(groups(2, [(0, 1)]), [[0, 1]])
        self.assertEqual(groups(5, all_ties(5)), [[0, 1, 2, 3, 4]])
        self.assertEqual(groups(200, chain(200)), [list(range(200))])

    def test_a_ring(self):
        self.assertEqual(groups(5, ring([0, 3, 1, 4, 2])), [[0, 1, 2, 3, 4]])
        self.assertEqual(groups(6, ring([1, 5, 3])), [[0], [1, 3, 5], [2], [4]])

    def test_several_groups(self):
        self.assertEqual(groups(8, [(3, 7), (0, 5), (1, 3), (2, 6)]), [[0, 5], [1, 3, 7], [2, 6], [4]])
        self.assertEqual(groups(4, [(0, 3), (1, 2)]), [[0, 3], [1, 2]])
        # As texts 10 would stand ahead of 2.
        self.assertEqual(groups(12, [(2, 10), (10, 11)])[2], [2, 10, 11])

    def test_ties_in_any_order(self):
        ties = [(0, 4), (1, 2), (2, 5), (3, 6), (4, 6)]
        for order in itertools.permutations(ties):
            self.assertEqual(groups(8, list(order)), [[0, 3, 4, 6], [1, 2, 5], [7]])

    def test_every_small_case(self):
        for n, ties in every_small_case():
            self.assertEqual(groups(n, ties), plain_groups(n, ties), (n, ties))

    def test_larger_cases(self):
        for n, ties in larger_cases():
            told = groups(n, ties)
            self.assertEqual(told, plain_groups(n, ties), (n, ties))
            self.assertEqual(sorted(sum(told, [])), list(range(n)))

    def test_kinds(self):
        told = groups(4, [(0, 2)])
        self.assertIs(type(told), list)
        for group in told:
            self.assertIs(type(group), list)


class Steps(unittest.TestCase):
    def test_one_place(self):
        self.assertEqual(steps(1, [], 0), [0])

    def test_none_just_where_there_is_no_way(self):
        self.assertEqual(steps(3, [], 1), [None, 0, None])
        self.assertEqual(steps(5, [(1, 4), (0, 2)], 4), [None, 1, None, None, 0])

    def test_the_least_of_several_ways(self):
        self.assertEqual(steps(5, [(0, 1), (1, 2), (2, 3), (3, 4), (0, 4)], 0), [0, 1, 2, 2, 1])
        self.assertEqual(steps(5, [(3, 4), (2, 3), (1, 2), (0, 1), (1, 4)], 0), [0, 1, 2, 3, 2])
        self.assertEqual(steps(6, all_ties(6), 3), [1, 1, 1, 0, 1, 1])

    def test_far_ways(self):
        self.assertEqual(steps(200, chain(200), 0), list(range(200)))
        self.assertEqual(steps(200, chain(200), 199), list(reversed(range(200))))
        self.assertEqual(steps(200, ring(list(range(200))), 0)[100], 100)

    def test_ties_in_any_order(self):
        for order in itertools.permutations([(0, 1), (1, 2), (2, 3), (0, 4), (3, 4)]):
            self.assertEqual(steps(6, list(order), 4), [1, 2, 2, 1, 0, None])

    def test_every_small_case(self):
        for n, ties in every_small_case():
            for a in range(n):
                told = steps(n, ties, a)
                self.assertEqual(told, plain_steps(n, ties, a), (n, ties, a))
                self.assertEqual([place for place in range(n) if told[place] == 0], [a])

    def test_larger_cases(self):
        for n, ties in larger_cases():
            for a in (0, n // 2, n - 1):
                self.assertEqual(steps(n, ties, a), plain_steps(n, ties, a), (n, ties, a))


class Shortest(unittest.TestCase):
    def check(self, n, ties, a, b, count):
        told = shortest(n, ties, a, b)
        where = (n, ties, a, b, told)
        if count is None:
            self.assertIs(told, None, where)
            return
        self.assertIs(type(told), list, where)
        self.assertEqual(told[0], a, where)
        self.assertEqual(told[-1], b, where)
        self.assertEqual(len(told) - 1, count, where)
        for pair in zip(told, told[1:]):
            self.assertIn(tuple(sorted(pair)), ties, where)

    def test_a_place_and_itself(self):
        self.assertEqual(shortest(1, [], 0, 0), [0])
        self.assertEqual(shortest(4, [], 3, 3), [3])
        self.assertEqual(shortest(4, all_ties(4), 2, 2), [2])

    def test_not_joined(self):
        self.assertIs(shortest(2, [], 0, 1), None)
        self.assertIs(shortest(5, [(0, 1), (2, 3)], 1, 2), None)
        self.assertIs(shortest(5, [(0, 1), (2, 3)], 0, 4), None)

    def test_the_only_way_in_either_direction(self):
        self.assertEqual(shortest(4, [(0, 2), (1, 2), (1, 3)], 0, 3), [0, 2, 1, 3])
        self.assertEqual(shortest(4, [(0, 2), (1, 2), (1, 3)], 3, 0), [3, 1, 2, 0])
        self.assertEqual(shortest(200, chain(200), 199, 0), list(reversed(range(200))))

    def test_the_shorter_of_two_ways(self):
        ties = [(0, 1), (0, 4), (1, 2), (2, 3), (3, 4)]
        self.assertEqual(shortest(5, ties, 0, 3), [0, 4, 3])
        self.assertEqual(shortest(5, ties, 2, 0), [2, 1, 0])

    def test_every_small_case(self):
        for n, ties in every_small_case():
            for a in range(n):
                counts = plain_steps(n, ties, a)
                for b in range(n):
                    self.check(n, ties, a, b, counts[b])

    def test_larger_cases(self):
        for n, ties in larger_cases():
            for a in (0, n // 3, n - 1):
                counts = plain_steps(n, ties, a)
                for b in (0, 1, n // 2, n - 1):
                    self.check(n, ties, a, b, counts[b])


ASKED = {
    "groups": lambda ties: groups(7, ties),
    "steps": lambda ties: steps(7, ties, 3),
    "shortest": lambda ties: shortest(7, ties, 0, 6),
    "shortest to itself": lambda ties: shortest(7, ties, 2, 2),
}
UNSORTED = ((3, 6), (0, 3), (4, 5), (0, 2), (2, 6))


class HandedInAndTold(unittest.TestCase):
    def test_the_ties_handed_in_stay_as_they_were(self):
        for name, ask in ASKED.items():
            with self.subTest(name=name):
                ties = list(UNSORTED)
                ask(ties)
                self.assertEqual(ties, list(UNSORTED))

    def test_what_is_done_to_a_told_list_changes_no_later_answer(self):
        for name, ask in ASKED.items():
            with self.subTest(name=name):
                ties = list(UNSORTED)
                before = repr(ask(ties))
                told = ask(ties)
                told.append("more")
                told[0] = "other"
                self.assertEqual(repr(ask(ties)), before)
                told.clear()
                self.assertEqual(repr(ask(ties)), before)
                self.assertEqual(ties, list(UNSORTED))

    def test_what_is_done_to_a_list_within_a_told_one(self):
        ties = list(UNSORTED)
        for k in range(3):
            told = groups(7, ties)
            rest = repr([group for j, group in enumerate(told) if j != k])
            told[k].append("more")
            told[k][0] = "other"
            self.assertEqual(repr([group for j, group in enumerate(told) if j != k]), rest)
            self.assertEqual(groups(7, ties), [[0, 2, 3, 6], [1], [4, 5]])

    def test_what_is_done_later_to_the_ties_handed_in_changes_nothing_told(self):
        for name, ask in ASKED.items():
            with self.subTest(name=name):
                ties = list(UNSORTED)
                told = ask(ties)
                before = repr(told)
                ties.append((1, 5))
                self.assertEqual(repr(told), before)
                ties.clear()
                self.assertEqual(repr(told), before)

    def test_later_questions_change_nothing_told_before(self):
        told = [ask(list(UNSORTED)) for ask in ASKED.values()]
        before = repr(told)
        for ask in ASKED.values():
            ask([(0, 1), (0, 6)])
        self.assertEqual(repr(told), before)

    def test_each_answer_hangs_on_what_is_asked_alone(self):
        for name, ask in ASKED.items():
            with self.subTest(name=name):
                first = ask(list(UNSORTED))
                ask([(0, 6), (1, 3)])
                self.assertEqual(ask(list(UNSORTED)), first)


if __name__ == "__main__":
    unittest.main()
