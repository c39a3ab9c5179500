import itertools
import random
import unittest

from plain import PlainAccount, PlainKeeper, RefusalCase, only_way, plain_groups, plain_lightest
from tiewood.desk import Desk

SIXTY = "9" * 60
# Written numbers that are none: an empty word, a sign too much, a first 0, too many figures, other signs.
NO_NUMBERS = (
    "", "+1", "-0", "01", "00", "-01", "1" * 61, "-" + "1" * 61, "--1", "-", "+", "a", "1.0", "1-", "1:", "0-1:2",
)
STEPS = (
    ("new 8", "ok"), ("put 2 3", "wood"), ("put 3 4", "wood"), ("put 4 6", "wood"), ("put 7 6", "wood"),
    ("put 1 7", "wood"), ("put 0 1", "wood"), ("put 5 7", "wood"), ("put 2 1", "beside"), ("out 6 7", "0:4/3>1-2"),
    ("put 6 7", "beside"), ("out 7 1", "0:2/1>6-7"), ("put 0 2", "beside"), ("put 5 2", "beside"),
)
WEIGHED = "weigh 5 1-0:3 1-2:3 3-2:-1 0-3:5 0-2:4 3-1:4"


def desk_behind(*rows):
    desk = Desk()
    for row in rows:
        desk.say(row)
    return desk


def desk_behind_steps():
    return desk_behind(*[row for row, answer in STEPS])


class DeskCase(RefusalCase):
    def check(self, desk, *rows):
        for row, answer in rows:
            with self.subTest(row=row):
                told = desk.say(row)
                self.assertIs(type(told), str)
                self.assertEqual(told, answer)

    def asked(self, desk, count):
        rows = ["ties", "account"] + [f"side {a}" for a in range(count)]
        rows += [f"{ask} {a} {b}" for ask in ("joined", "way") for a, b in itertools.product(range(count), repeat=2)]
        return [desk.say(row) for row in rows]


class AtFirst(DeskCase):
    def test_a_keeper_of_one_place(self):
        self.check(
            Desk(),
            ("ties", "none"), ("account", "0 0 0 0 0"), ("side 0", "0"), ("joined 0 0", "yes"), ("way 0 0", "0"),
        )

    def test_what_it_refuses(self):
        desk = Desk()
        for row in ("put 0 0", "out 0 0"):
            self.refused("Alike", desk.say, row)
        for row in ("put 0 1", "out 1 0", "joined 0 1", "way 1 0", "side 1", "put 1 1"):
            self.refused("NoPlace", desk.say, row)
        self.refused("NoRow", desk.say, "weight")

    def test_two_desks_do_not_disturb_one_another(self):
        one, other = Desk(), Desk()
        self.check(one, ("new 3", "ok"), ("put 0 1", "wood"))
        self.check(other, ("ties", "none"), ("side 0", "0"))
        self.refused("NoPlace", other.say, "side 1")
        self.check(other, ("weigh 4 0-1:1 2-3:2", "ok"))
        self.check(one, ("ties", "0-1:0*"), ("put 1 2", "wood"))
        self.check(other, ("out 0 1", "0:1/0"), ("ties", "2-3:0*"), ("weight", "2"))
        self.check(one, ("ties", "0-1:0* 1-2:0*"), ("account", "2 0 0 0 0"))


class WithAKeeper(DeskCase):
    def test_each_row(self):
        desk = Desk()
        self.check(desk, *STEPS)
        self.check(
            desk,
            ("ties", "0-1:0* 0-2:0 1-2:0* 2-3:1* 2-5:0 3-4:1* 4-6:1* 5-7:1* 6-7:0*"),
            ("account", "11 6 4 4 14"),
            ("out 3 4", "1:2/1 0:4/3>2-5"),
            ("ties", "0-1:1* 0-2:1 1-2:1* 2-3:2* 2-5:0* 4-6:1* 5-7:1* 6-7:0*"),
            ("account", "11 11 8 5 9"),
            ("out 2 0", "none"),
            ("way 0 7", "0 1 2 5 7"), ("way 7 0", "7 5 2 1 0"), ("way 4 4", "4"),
            ("joined 0 7", "yes"), ("joined 3 3", "yes"),
            ("out 2 5", "0:4/0"),
            ("joined 0 7", "no"), ("way 0 7", "none"), ("side 1", "0 1 2 3"), ("side 7", "4 5 6 7"),
            ("out 3 2", "2:1/0 1:1/0 0:1/0"), ("side 3", "3"),
        )

    def test_new_begins_anew(self):
        desk = desk_behind_steps()
        self.check(desk, ("new 3", "ok"), ("ties", "none"), ("account", "0 0 0 0 0"), ("side 2", "2"))
        self.refused("NoPlace", desk.say, "side 3")
        self.check(desk, ("new 1", "ok"), ("side 0", "0"))
        self.check(desk, ("new 200", "ok"), ("put 199 0", "wood"), ("side 0", "0 199"))

    def test_the_first_place_of_all_is_found(self):
        desk = desk_behind("new 3", "put 0 2", "put 2 1", "put 0 1")
        self.check(desk, ("out 0 2", "0:1/0>0-1"), ("ties", "0-1:0* 1-2:0*"))

    def test_numbers_of_more_figures(self):
        desk = desk_behind("new 200", *[f"put {k} {k + 1}" for k in range(199)], "put 0 199")
        self.check(desk, ("way 98 102", "98 99 100 101 102"), ("out 100 99", "0:100/99>0-199"))
        self.assertEqual(desk.say("side 5"), " ".join(str(place) for place in range(200)))
        self.assertEqual(desk.say("account"), "200 100 99 6 1095")


class WithALightestWood(DeskCase):
    def test_each_row(self):
        self.check(
            Desk(),
            (WEIGHED, "ok"),
            ("ties", "0-1:0* 0-2:0 0-3:0 1-2:0* 1-3:0 2-3:0*"), ("weight", "5"), ("account", "6 0 0 0 6"),
            ("way 0 3", "0 1 2 3"), ("way 0 4", "none"), ("joined 4 4", "yes"), ("joined 4 0", "no"),
            ("side 2", "0 1 2 3"), ("side 4", "4"),
            ("out 3 2", "0:1/0>1-3"), ("weight", "10"), ("out 0 3", "none"), ("weight", "10"),
            ("out 0 1", "0:1/0>0-2"), ("weight", "11"), ("ties", "0-2:0* 1-2:0* 1-3:0*"),
            ("out 1 2", "0:2/1"), ("weight", "8"), ("account", "6 3 1 4 1"), ("ties", "0-2:0* 1-3:1*"),
            ("out 0 2", "0:1/0"), ("out 1 3", "1:1/0 0:1/0"), ("ties", "none"), ("weight", "0"),
            ("account", "6 3 1 5 0"),
        )

    def test_no_ties(self):
        self.check(
            Desk(), ("weigh 1", "ok"), ("ties", "none"), ("weight", "0"), ("account", "0 0 0 0 0"), ("side 0", "0"),
            ("weigh 200", "ok"), ("side 199", "199"),
        )

    def test_weights(self):
        desk = Desk()
        for words, weight in (
            ("0-1:0", "0"), ("0-1:-7", "-7"), ("0-1:-7 1-2:7", "0"), ("0-1:10 1-2:9 0-2:8", "17"),
            ("0-1:" + SIXTY, SIXTY), ("0-1:-" + SIXTY, "-" + SIXTY),
            # The weight of all may have more figures than a written number.
            ("0-1:" + SIXTY + " 2-1:" + SIXTY, "1" + "9" * 59 + "8"),
        ):
            self.check(desk, ("weigh 3 " + words, "ok"), ("weight", weight))

    def test_one_behind_another(self):
        desk = Desk()
        self.check(desk, ("weigh 2 1-0:4", "ok"), ("weigh 3 2-1:5", "ok"), ("ties", "1-2:0*"), ("weight", "5"))
        self.check(desk, ("new 2", "ok"), ("ties", "none"), ("put 0 1", "wood"))
        self.refused("NoRow", desk.say, "weight")
        self.check(desk, ("weigh 2", "ok"), ("weight", "0"))
        self.refused("Fixed", desk.say, "put 0 1")


class NoRows(DeskCase):
    def setUp(self):
        self.desks = [Desk(), desk_behind_steps(), desk_behind(WEIGHED), desk_behind("weigh 2")]
        self.counts = [1, 8, 5, 2]
        self.before = [self.asked(desk, count) for desk, count in zip(self.desks, self.counts)]

    def tearDown(self):
        # What is refused changes nothing.
        self.assertEqual([self.asked(desk, count) for desk, count in zip(self.desks, self.counts)], self.before)

    def no_row(self, row):
        for desk in self.desks:
            with self.subTest(row=row):
                self.refused("NoRow", desk.say, row)

    def test_words_that_ask_nothing(self):
        for row in (
            "", " ", "  ", "hello", "New 3", "NEW 3", "news 3", "ties,", "tie", "Ties", "0", "-", "~", "*", "none",
            "ok", "get 0 0", "link 0 1", "cut 0 1", "size 0", "group 0", "quit", "put,0,1", "put\t0\t1", "kept",
            "begin 3",
        ):
            self.no_row(row)

    def test_other_counts_of_words(self):
        counts = {
            "new": [1], "put": [2], "out": [2], "joined": [2], "way": [2], "side": [1], "ties": [0], "account": [0],
            "weight": [0], "weigh": [1],
        }
        for word, right in counts.items():
            for count in range(5):
                if count not in right:
                    self.no_row(" ".join([word] + ["0"] * count))

    def test_blanks_too_many(self):
        for row in (
            "ties", "account", "weight", "side 0", "joined 0 0", "way 0 0", "new 2", "weigh 2", "weigh 2 0-1:1",
        ):
            self.no_row(" " + row)
            self.no_row(row + " ")
            self.no_row(row + "  ")
            if " " in row:
                self.no_row(row.replace(" ", "  ", 1))
        self.no_row("put 0  1")
        self.no_row("weigh 3 0-1:1  1-2:1")

    def test_words_that_are_no_written_numbers(self):
        for word in NO_NUMBERS:
            for row in ("new", "side", "weigh"):
                self.no_row(f"{row} {word}")
            for row in ("put", "out", "joined", "way"):
                self.no_row(f"{row} {word} 0")
                self.no_row(f"{row} 0 {word}")
                self.no_row(f"{row} {word} {word}")

    def test_no_row_comes_ahead_of_all_else(self):
        for word in NO_NUMBERS:
            for row in ("put", "out", "joined", "way"):
                # The other one is no place.
                self.no_row(f"{row} {word} 900")
                self.no_row(f"{row} -3 {word}")
        for row in (
            "weigh 0 0-1:01", "weigh 900 x", "weigh 3 9-9:5 0-1", "weigh 3 1-1:5 0-1:+5", "weigh 3 0-1:5 1-0:5 2-1:",
            "new 900 ", "new 0 0", "weigh -1 -1-0:5", "weigh +3 0-9:5",
        ):
            self.no_row(row)

    def test_words_of_weigh_that_are_none(self):
        for word in (
            "", "0", "0-1", "0:1", "0-1:", ":", "-", "-:", "0-:1", "-1:2", "-0-1:5", "-1-0:5", "0--1:5", "0-1:-0",
            "0-1:05", "0-01:5", "00-1:5", "0-1:+5", "+0-1:5", "0-+1:5", "0-1:5:6", "0-1-2:5", "0-1:5-6", "0:1-5",
            "0-1:5*", "0-1:--5", "0-1:5,", "0-1:" + "1" * 61, "0-" + "1" * 61 + ":5", "1" * 61 + "-0:5", "0-1::5",
            "01:-5",
        ):
            self.no_row("weigh 3 " + word)
            self.no_row("weigh 3 1-2:1 " + word)
            self.no_row(f"weigh 3 {word} 1-2:1")

    def test_the_weight_of_a_keeper(self):
        for desk in self.desks[:2]:
            self.refused("NoRow", desk.say, "weight")


class Refusals(DeskCase):
    def setUp(self):
        self.keeper, self.lightest = desk_behind_steps(), desk_behind(WEIGHED, "out 3 2")
        self.before = [self.asked(self.keeper, 8), self.asked(self.lightest, 5)]

    def tearDown(self):
        # What is refused changes nothing, not even what comes later.
        self.assertEqual([self.asked(self.keeper, 8), self.asked(self.lightest, 5)], self.before)
        self.check(self.keeper, ("put 3 6", "beside"), ("out 3 4", "1:2/1 0:4/3>2-5"))
        self.check(self.lightest, ("weight", "10"), ("out 0 1", "0:1/0>0-2"), ("weight", "11"))

    def test_counts(self):
        for desk in (self.keeper, self.lightest):
            for count in ("0", "-1", "201", "1000", SIXTY, "-" + SIXTY):
                self.refused("NoCount", desk.say, "new " + count)
                self.refused("NoCount", desk.say, "weigh " + count)
                self.refused("NoCount", desk.say, f"weigh {count} 0-1:5 1-1:5 0-999:1")

    def test_places(self):
        for desk, count in ((self.keeper, 8), (self.lightest, 5)):
            for thing in (str(count), "-1", "200", SIXTY, "-" + SIXTY):
                self.refused("NoPlace", desk.say, f"side {thing}")
                for row in ("out", "joined", "way"):
                    self.refused("NoPlace", desk.say, f"{row} {thing} 0")
                    self.refused("NoPlace", desk.say, f"{row} 0 {thing}")
                    self.refused("NoPlace", desk.say, f"{row} {thing} {thing}")
        for row in ("put 8 0", "put 0 8", "put -1 -1", "put 8 8", "put -8 2"):
            self.refused("NoPlace", self.keeper.say, row)

    def test_ties(self):
        self.refused("Alike", self.keeper.say, "put 3 3")
        self.refused("Alike", self.keeper.say, "out 0 0")
        self.refused("Tied", self.keeper.say, "put 2 3")
        self.refused("Tied", self.keeper.say, "put 5 2")
        self.refused("NoTie", self.keeper.say, "out 1 7")
        self.refused("Alike", self.lightest.say, "out 4 4")
        self.refused("NoTie", self.lightest.say, "out 2 3")
        self.refused("NoTie", self.lightest.say, "out 4 0")

    def test_a_put_to_a_lightest_wood(self):
        for row in ("put 0 4", "put 0 1", "put 1 1", "put 9 9", "put -1 0", "put 0 " + SIXTY):
            self.refused("Fixed", self.lightest.say, row)
        self.refused("NoRow", self.lightest.say, "put 0")
        self.refused("NoRow", self.lightest.say, "put 0 x")

    def test_weigh_refuses_in_the_order_of_its_words(self):
        faults = {"NoPlace": "0-5:1", "Alike": "2-2:1", "Tied": "1-0:1"}
        for desk in (self.keeper, self.lightest):
            for names in itertools.permutations(faults):
                words = " ".join(faults[name] for name in names)
                self.refused(names[0], desk.say, f"weigh 5 0-1:7 {words}")
                self.refused(names[0], desk.say, f"weigh 5 0-1:7 3-4:-9 {words} 2-3:1")
            self.refused("NoPlace", desk.say, "weigh 5 7-7:1")
            self.refused("Tied", desk.say, "weigh 5 0-1:7 2-3:1 0-1:7")


class ByChance(DeskCase):
    def deed(self, source, plain, weights):
        if plain.kept and source.random() < (1 if weights else 0.45):
            tie = source.choice(sorted(plain.wood(0)))
            return "out", tie
        free = [tie for tie in itertools.combinations(range(plain.n), 2) if tie not in plain.kept]
        return ("put", source.choice(free)) if free else ("out", source.choice(sorted(plain.kept)))

    def trail_words(self, trail):
        words = []
        for level, side, risen, found in trail:
            words.append("%d:%d/%d" % (level, len(side), len(risen)) + (">%d-%d" % found if found else ""))
        return " ".join(words) or "none"

    def check_questions(self, desk, plain, account, source):
        ties = ["%d-%d:%d" % tie[:3] + "*" * tie[3] for tie in plain.ties()]
        self.assertEqual(desk.say("ties"), " ".join(ties) or "none")
        self.assertEqual(desk.say("account"), " ".join(map(str, account.told(plain.ties()))))
        a, b = source.choices(range(plain.n), k=2)
        group = next(group for group in plain_groups(plain.n, list(plain.kept)) if a in group)
        self.assertEqual(desk.say(f"side {a}"), " ".join(map(str, group)))
        self.assertEqual(desk.say(f"joined {a} {b}"), "yes" if b in group else "no")
        way = only_way(plain.wood(0), a, b) if b in group else ["none"]
        self.assertEqual(desk.say(f"way {a} {b}"), " ".join(map(str, way)))

    def go(self, desk, source, plain, weights, account):
        for turn in range(60):
            if weights and not plain.kept:
                break
            deed, tie = self.deed(source, plain, weights)
            row = "%s %d %d" % (deed, *source.sample(tie, 2))
            if deed == "put":
                account.put += 1
                self.assertEqual(desk.say(row), "wood" if plain.put(tie) else "beside")
            else:
                level = plain.kept[tie][0]
                trail = plain.out(tie)
                account.went(level, trail)
                self.assertEqual(desk.say(row), self.trail_words(trail))
            self.check_questions(desk, plain, account, source)
            if weights:
                left = {tie: weights[tie] for tie in plain.kept}
                weight = sum(weights[tie] for tie in plain_lightest(plain.n, left))
                self.assertEqual(desk.say("weight"), str(weight))

    def test_one_desk_with_many_keepers_and_lightest_woods(self):
        source = random.Random(8)
        desk = Desk()
        for n in (2, 3, 5, 8, 11, 16):
            self.assertEqual(desk.say(f"new {n}"), "ok")
            self.go(desk, source, PlainKeeper(n), {}, PlainAccount(n))
            ties = source.sample(list(itertools.combinations(range(n), 2)), n * (n - 1) // 2)
            weights = {tie: source.randrange(-9, 9) for tie in ties}
            words = ["%d-%d:%d" % (*source.sample(tie, 2), weights[tie]) for tie in ties]
            self.assertEqual(desk.say(" ".join(["weigh", str(n)] + words)), "ok")
            account = PlainAccount(n)
            account.put = len(ties)
            self.go(desk, source, PlainKeeper(n, weights), weights, account)


if __name__ == "__main__":
    unittest.main()
