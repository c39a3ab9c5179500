import unittest

from tiewood.places import is_count, is_place, is_whole, tie_of, top

HUGE = 10 ** 299 + 7
WHOLE = (-HUGE, -10 ** 150, -201, -200, -2, -1, 0, 1, 2, 3, 199, 200, 201, 10 ** 150, HUGE)
NOT_WHOLE = (
    True, False, None, "", "0", "1", "-1", "200", "a", " 1 ",
    [], [0], [1], [[1]], (), (0,), (1,), (1, 2), [True], (None,),
)


class Whole(unittest.TestCase):
    def test_whole_numbers(self):
        for thing in WHOLE:
            with self.subTest(thing=thing):
                self.assertIs(is_whole(thing), True)

    def test_other_things(self):
        for thing in NOT_WHOLE:
            with self.subTest(thing=thing):
                self.assertIs(is_whole(thing), False)

    def test_a_list_asked_for_stays_as_it_was(self):
        thing = [1, [2]]
        for asked in (is_whole, is_count, lambda thing: is_place(3, thing)):
            self.assertIs(asked(thing), False)
            self.assertEqual(thing, [1, [2]])


class Count(unittest.TestCase):
    def test_every_number_about_the_bounds(self):
        for thing in range(-250, 451):
            with self.subTest(thing=thing):
                self.assertIs(is_count(thing), thing in range(1, 201))

    def test_edges(self):
        self.assertIs(is_count(0), False)
        self.assertIs(is_count(1), True)
        self.assertIs(is_count(200), True)
        self.assertIs(is_count(201), False)

    def test_numbers_of_hundreds_of_figures(self):
        for thing in (HUGE, -HUGE, 10 ** 150, -10 ** 150):
            with self.subTest(thing=thing):
                self.assertIs(is_count(thing), False)

    def test_other_things(self):
        for thing in NOT_WHOLE:
            with self.subTest(thing=thing):
                self.assertIs(is_count(thing), False)


class Place(unittest.TestCase):
    def test_edges_of_every_count(self):
        for n in range(1, 201):
            for thing, answer in ((-1, False), (0, True), (n - 1, True), (n, False), (n + 1, False), (-n, False)):
                with self.subTest(n=n, thing=thing):
                    self.assertIs(is_place(n, thing), answer)

    def test_every_number_about_the_places(self):
        for n in (1, 2, 7, 199, 200):
            for thing in range(-210, 411):
                with self.subTest(n=n, thing=thing):
                    self.assertIs(is_place(n, thing), thing in range(n))

    def test_numbers_of_hundreds_of_figures(self):
        for n in (1, 2, 200):
            for thing in (HUGE, -HUGE, 10 ** 150, -10 ** 150):
                with self.subTest(n=n, thing=thing):
                    self.assertIs(is_place(n, thing), False)

    def test_other_things(self):
        for n in (1, 2, 3, 200):
            for thing in NOT_WHOLE:
                with self.subTest(n=n, thing=thing):
                    self.assertIs(is_place(n, thing), False)


class Top(unittest.TestCase):
    def test_every_count_by_the_words_of_the_document(self):
        for n in range(1, 201):
            with self.subTest(n=n):
                fitting = [i for i in range(20) if 2 ** (i + 1) <= n]
                told = top(n)
                self.assertEqual(told, max(fitting, default=0))
                self.assertIs(type(told), int)

    def test_edges(self):
        edges = {1: 0, 2: 0, 3: 0, 4: 1, 7: 1, 8: 2, 15: 2, 16: 3, 63: 4, 64: 5, 127: 5, 128: 6, 199: 6, 200: 6}
        for n, level in edges.items():
            with self.subTest(n=n):
                self.assertEqual(top(n), level)


class TieOf(unittest.TestCase):
    def test_either_place_first(self):
        for a in range(30):
            for b in range(a + 1, 30):
                with self.subTest(a=a, b=b):
                    self.assertEqual(tie_of(a, b), (a, b))
                    self.assertEqual(tie_of(b, a), (a, b))

    def test_places_far_apart(self):
        self.assertEqual(tie_of(0, 199), (0, 199))
        self.assertEqual(tie_of(199, 0), (0, 199))
        # As texts these two would stand the other way round.
        self.assertEqual(tie_of(9, 10), (9, 10))
        self.assertEqual(tie_of(10, 9), (9, 10))

    def test_it_is_a_tuple(self):
        self.assertIs(type(tie_of(1, 2)), tuple)
        self.assertIs(type(tie_of(2, 1)), tuple)

    def test_ties_come_in_the_order_of_their_tuples(self):
        told = [tie_of(10, 2), tie_of(2, 3), tie_of(1, 0), tie_of(9, 0), tie_of(1, 2)]
        self.assertEqual(sorted(told), [(0, 1), (0, 9), (1, 2), (2, 3), (2, 10)])


if __name__ == "__main__":
    unittest.main()
