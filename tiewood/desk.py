"""A desk: it is told rows of words, and answers each with a text."""

from tiewood.errors import Fixed, NoRow
from tiewood.keeper import Keeper
from tiewood.lightest import Lightest
from tiewood.texts import number_of, numbers_text, ties_text, trail_text, way_text, weighed_of

# How many numbers each row has behind its first word; weigh is none of these, having words of another form, too.
NUMBERS = {"new": 1, "put": 2, "out": 2, "joined": 2, "way": 2, "side": 1, "ties": 0, "weight": 0, "account": 0}


class Desk:
    def __init__(self):
        self.kept = Keeper(1)

    def say(self, row):
        words = row.split(" ")
        if words[0] == "weigh" and len(words) > 1:
            return self.begin(self.weighed(words))
        if NUMBERS.get(words[0]) != len(words) - 1:
            raise NoRow("this is no row for a desk")
        return self.answer(words[0], [number_of(word) for word in words[1:]])

    def weighed(self, words):
        return Lightest(number_of(words[1]), [weighed_of(word) for word in words[2:]])

    # What is begun is made ahead of the call, so that where its making is refused the desk still has the old one.
    def begin(self, kept):
        self.kept = kept
        return "ok"

    def answer(self, asked, numbers):
        if asked == "new":
            return self.begin(Keeper(numbers[0]))
        if asked == "put":
            return self.put(numbers[0], numbers[1])
        if asked == "out":
            return trail_text(self.kept.out(numbers[0], numbers[1]))
        if asked == "joined":
            return "yes" if self.kept.joined(numbers[0], numbers[1]) else "no"
        if asked == "way":
            return way_text(self.kept.way(numbers[0], numbers[1]))
        if asked == "side":
            return numbers_text(self.kept.side(numbers[0]))
        if asked == "ties":
            return ties_text(self.kept.ties())
        if asked == "weight":
            return self.weight()
        return numbers_text(self.kept.account())

    def put(self, a, b):
        if isinstance(self.kept, Lightest):
            raise Fixed("no tie is put into a lightest wood")
        return "wood" if self.kept.put(a, b) else "beside"

    def weight(self):
        if not isinstance(self.kept, Lightest):
            raise NoRow("a keeper has no weight")
        return str(self.kept.weight())
