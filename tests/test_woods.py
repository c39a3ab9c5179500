import itertools
import random
import unittest

from plain import RefusalCase, no_places, only_way, plain_groups, random_tree
from tiewood.woods import Wood


def wood_of(n, ties):
    wood = Wood(n)
    for a, b in ties:
        wood.link(a, b)
    return wood


def all_told(wood, n):
    pairs = list(itertools.product(range(n), repeat=2))
    return (
        wood.ties(),
        [wood.group(a) for a in range(n)],
        [wood.size(a) for a in range(n)],
        [wood.joined(a, b) for a, b in pairs],
        [wood.way(a, b) for a, b in pairs],
    )


class WoodCase(RefusalCase):
    def check_places(self, wood, n, ties):
        self.assertEqual(wood.ties(), sorted(ties))
        for group in plain_groups(n, ties):
            for a in group:
                self.assertEqual(wood.group(a), group)
                self.assertEqual(wood.size(a), len(group))

    def check_pair(self, wood, n, ties, a, b):
        group = next(group for group in plain_groups(n, ties) if a in group)
        self.assertIs(wood.joined(a, b), b in group)
        if b in group:
            self.assertEqual(wood.way(a, b), only_way(ties, a, b))
        else:
            self.assertIs(wood.way(a, b), None)

    def check_all(self, wood, n, ties):
        self.check_places(wood, n, ties)
        for a, b in itertools.product(range(n), repeat=2):
            self.check_pair(wood, n, ties, a, b)


class AtFirst(WoodCase):
    def test_it_has_no_ties(self):
        for n in (1, 2, 5, 20):
            with self.subTest(n=n):
                self.check_all(Wood(n), n, [])

    def test_one_place(self):
        wood = Wood(1)
        self.assertEqual(wood.ties(), [])
        self.assertEqual(wood.group(0), [0])
        self.assertEqual(wood.size(0), 1)
        self.assertIs(wood.joined(0, 0), True)
        self.assertEqual(wood.way(0, 0), [0])

    def test_the_greatest_count_and_one_somewhat_beyond(self):
        for n in (199, 200, 201, 256):
            wood = Wood(n)
            self.assertEqual(wood.size(n - 1), 1)
            self.refused("NoPlace", wood.size, n)
            wood.link(n - 1, 0)
            self.assertEqual(wood.ties(), [(0, n - 1)])


class LinkAndCut(WoodCase):
    def test_by_hand(self):
        wood = Wood(6)
        self.assertIs(wood.link(4, 1), None)
        self.assertIs(wood.link(1, 2), None)
        self.assertIs(wood.link(5, 0), None)
        self.assertEqual(wood.ties(), [(0, 5), (1, 2), (1, 4)])
        self.assertEqual(wood.group(2), [1, 2, 4])
        self.assertEqual(wood.size(4), 3)
        self.assertEqual(wood.way(2, 4), [2, 1, 4])
        self.assertEqual(wood.way(4, 2), [4, 1, 2])
        self.assertIs(wood.joined(2, 4), True)
        self.assertIs(wood.joined(2, 5), False)
        self.assertIs(wood.way(2, 5), None)
        wood.link(5, 4)
        self.assertEqual(wood.way(2, 0), [2, 1, 4, 5, 0])
        self.assertEqual(wood.group(0), [0, 1, 2, 4, 5])
        self.assertIs(wood.cut(1, 4), None)
        self.assertEqual(wood.ties(), [(0, 5), (1, 2), (4, 5)])
        self.assertEqual(wood.group(1), [1, 2])
        self.assertEqual(wood.group(4), [0, 4, 5])
        self.assertIs(wood.way(2, 0), None)
        self.assertEqual(wood.group(3), [3])

    def test_either_place_first(self):
        for link in ((0, 2), (2, 0)):
            for cut in ((0, 2), (2, 0)):
                wood = Wood(3)
                wood.link(*link)
                self.check_all(wood, 3, [(0, 2)])
                wood.cut(*cut)
                self.check_all(wood, 3, [])
                wood.link(*cut)
                self.check_all(wood, 3, [(0, 2)])

    def test_a_place_is_joined_with_itself_whatever_is_done(self):
        wood = wood_of(4, [(0, 1), (1, 2)])
        for a in range(4):
            self.assertIs(wood.joined(a, a), True)
            self.assertEqual(wood.way(a, a), [a])

    def test_ties_are_tuples_in_order(self):
        # As texts 10 would stand ahead of 2.
        wood = wood_of(12, [(11, 2), (10, 2), (2, 3), (9, 0), (0, 10)])
        self.assertEqual(wood.ties(), [(0, 9), (0, 10), (2, 3), (2, 10), (2, 11)])
        self.assertTrue(all(type(tie) is tuple for tie in wood.ties()))
        self.assertEqual(wood.group(11), [0, 2, 3, 9, 10, 11])

    def test_kinds(self):
        wood = wood_of(3, [(0, 1)])
        self.assertIs(type(wood.ties()), list)
        self.assertIs(type(wood.group(0)), list)
        self.assertIs(type(wood.group(2)), list)
        self.assertIs(type(wood.size(0)), int)
        self.assertIs(type(wood.way(0, 1)), list)

    def test_random_links_and_cuts(self):
        source = random.Random(3)
        for n in (2, 3, 5, 8, 13):
            wood, ties = Wood(n), []
            for turn in range(150):
                a, b = source.sample(range(n), 2)
                tie = (min(a, b), max(a, b))
                if tie in ties:
                    wood.cut(a, b)
                    ties.remove(tie)
                elif wood.joined(a, b):
                    self.refused("Joined", wood.link, a, b)
                    tie = source.choice(ties)
                    wood.cut(*source.sample(tie, 2))
                    ties.remove(tie)
                else:
                    wood.link(a, b)
                    ties.append(tie)
                self.check_all(wood, n, ties)

    def test_random_links_and_cuts_of_many_places(self):
        source = random.Random(4)
        for n in (60, 200):
            ties = random_tree(source, list(range(n)))
            wood = wood_of(n, ties)
            for turn in range(60):
                tie = source.choice(ties)
                wood.cut(*source.sample(tie, 2))
                ties.remove(tie)
                if turn % 3:
                    groups = source.sample(plain_groups(n, ties), 2)
                    a, b = source.choice(groups[0]), source.choice(groups[1])
                    wood.link(a, b)
                    ties.append((min(a, b), max(a, b)))
                self.check_places(wood, n, ties)
                for pair in range(10):
                    self.check_pair(wood, n, ties, source.randrange(n), source.randrange(n))

    def test_a_way_and_a_star_of_200_places(self):
        way = wood_of(200, [(k, k + 1) for k in range(199)])
        self.assertEqual(way.way(0, 199), list(range(200)))
        self.assertEqual(way.way(199, 0), list(range(199, -1, -1)))
        self.assertEqual(way.size(100), 200)
        way.cut(100, 99)
        self.assertEqual(way.group(0), list(range(100)))
        self.assertEqual(way.way(150, 100), list(range(150, 99, -1)))
        star = wood_of(200, [(199, k) for k in range(199)])
        self.assertEqual(star.way(3, 150), [3, 199, 150])
        self.assertEqual(star.ties(), [(k, 199) for k in range(199)])

    def test_two_woods_have_nothing_in_common(self):
        one, other = Wood(3), Wood(3)
        one.link(0, 1)
        self.check_all(other, 3, [])
        other.link(1, 2)
        self.check_all(one, 3, [(0, 1)])


class Refusals(WoodCase):
    TIES = [(0, 1), (1, 2), (3, 4)]
    COUNT = 6

    def setUp(self):
        self.wood = wood_of(self.COUNT, self.TIES)
        self.before = all_told(self.wood, self.COUNT)

    def tearDown(self):
        # What is refused changes nothing.
        self.assertEqual(all_told(self.wood, self.COUNT), self.before)

    def test_deeds_with_no_place(self):
        for deed in (self.wood.link, self.wood.cut):
            for thing in no_places(self.COUNT):
                for place in range(self.COUNT):
                    self.refused("NoPlace", deed, thing, place)
                    self.refused("NoPlace", deed, place, thing)

    def test_no_place_comes_ahead_of_alike(self):
        for deed in (self.wood.link, self.wood.cut):
            for thing, other in itertools.product(no_places(self.COUNT), repeat=2):
                self.refused("NoPlace", deed, thing, other)
            # To Python these are the same number.
            self.refused("NoPlace", deed, True, 1)
            self.refused("NoPlace", deed, 0, False)

    def test_no_place_comes_ahead_of_what_the_wood_says(self):
        self.refused("NoPlace", self.wood.link, 0, True)
        self.refused("NoPlace", self.wood.link, False, 2)
        self.refused("NoPlace", self.wood.cut, False, 1)
        self.refused("NoPlace", self.wood.cut, True, 0)
        # From the end of a list these would be places that are joined or tied.
        self.refused("NoPlace", self.wood.link, 3, -2)
        self.refused("NoPlace", self.wood.cut, 3, -2)
        self.refused("NoPlace", self.wood.cut, -6, 1)

    def test_alike_places(self):
        for place in range(self.COUNT):
            self.refused("Alike", self.wood.link, place, place)
            self.refused("Alike", self.wood.cut, place, place)

    def test_like_places_that_are_not_the_same_object(self):
        wood = Wood(1000)
        for deed in (wood.link, wood.cut):
            self.refused("Alike", deed, int("900"), int("900"))

    def test_linking_what_is_joined(self):
        for group in ((0, 1, 2), (3, 4)):
            for a, b in itertools.permutations(group, 2):
                self.refused("Joined", self.wood.link, a, b)

    def test_cutting_what_is_not_tied(self):
        for a, b in itertools.permutations(range(self.COUNT), 2):
            if (min(a, b), max(a, b)) not in self.TIES:
                self.refused("NoTie", self.wood.cut, a, b)

    def test_questions_with_no_place(self):
        for thing in no_places(self.COUNT):
            self.refused("NoPlace", self.wood.group, thing)
            self.refused("NoPlace", self.wood.size, thing)
            for ask in (self.wood.joined, self.wood.way):
                self.refused("NoPlace", ask, thing, thing)
                for place in range(self.COUNT):
                    self.refused("NoPlace", ask, thing, place)
                    self.refused("NoPlace", ask, place, thing)

    def test_a_wood_of_one_place(self):
        wood = Wood(1)
        for deed in (wood.link, wood.cut):
            self.refused("Alike", deed, 0, 0)
            self.refused("NoPlace", deed, 0, 1)
            self.refused("NoPlace", deed, 1, 1)
        self.check_all(wood, 1, [])


class RefusalsBehindDeeds(WoodCase):
    def test_what_was_cut_can_be_linked_and_not_cut_again(self):
        wood = wood_of(4, [(0, 1), (1, 2)])
        wood.cut(1, 0)
        self.refused("NoTie", wood.cut, 0, 1)
        self.refused("NoTie", wood.cut, 1, 0)
        wood.link(0, 2)
        self.refused("Joined", wood.link, 0, 1)
        self.refused("NoTie", wood.cut, 0, 1)
        self.check_all(wood, 4, [(0, 2), (1, 2)])

    def test_deeds_go_on_behind_refusals(self):
        source = random.Random(9)
        n = 7
        wood, ties = Wood(n), []
        for turn in range(300):
            a, b = source.choices(range(-1, n + 1), k=2)
            tie = (min(a, b), max(a, b))
            joined = any({a, b} <= set(group) for group in plain_groups(n, ties))
            deed = source.choice(("link", "cut"))
            fault = None
            if not {a, b} <= set(range(n)):
                fault = "NoPlace"
            elif a == b:
                fault = "Alike"
            elif deed == "link" and joined:
                fault = "Joined"
            elif deed == "cut" and tie not in ties:
                fault = "NoTie"
            if fault:
                self.refused(fault, getattr(wood, deed), a, b)
            else:
                getattr(wood, deed)(a, b)
                (ties.append if deed == "link" else ties.remove)(tie)
            self.check_all(wood, n, ties)


class Told(WoodCase):
    TIES = [(0, 1), (1, 4), (2, 3)]
    ASKED = {
        "ties": lambda wood: wood.ties(),
        "group": lambda wood: wood.group(4),
        "group of one place": lambda wood: wood.group(5),
        "way": lambda wood: wood.way(4, 0),
        "way to itself": lambda wood: wood.way(5, 5),
    }

    def test_what_is_done_to_a_told_list_changes_nothing(self):
        for name, ask in self.ASKED.items():
            with self.subTest(name=name):
                wood = wood_of(6, self.TIES)
                told, other = ask(wood), ask(wood)
                before = repr(other)
                told.append("more")
                told[0] = "other"
                self.assertEqual(repr(other), before)
                self.check_all(wood, 6, self.TIES)
                told.clear()
                self.check_all(wood, 6, self.TIES)
                wood.link(5, 4)
                wood.cut(0, 1)
                self.check_all(wood, 6, [(1, 4), (2, 3), (4, 5)])

    def test_what_is_done_or_asked_later_changes_nothing_told(self):
        for name, ask in self.ASKED.items():
            with self.subTest(name=name):
                wood = wood_of(6, self.TIES)
                told = ask(wood)
                before = repr(told)
                wood.link(4, 5)
                wood.link(2, 5)
                all_told(wood, 6)
                self.assertEqual(repr(told), before)
                for tie in wood.ties():
                    wood.cut(*tie)
                self.assertEqual(repr(told), before)


if __name__ == "__main__":
    unittest.main()
