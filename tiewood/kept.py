"""What a keeper and a lightest wood have in common: the taking out, the questions and the account."""

from tiewood.account import credit, looks, rises
from tiewood.errors import NoCount, NoTie, Tied
from tiewood.levels import Levels
from tiewood.places import is_count, tie_of
from tiewood.woods import refuse_no_pair


def new_tie(n, standing, a, b):
    refuse_no_pair(n, a, b)
    tie = tie_of(a, b)
    if tie in standing:
        raise Tied("the tie is there already")
    return tie


def standing_tie(n, standing, a, b):
    refuse_no_pair(n, a, b)
    tie = tie_of(a, b)
    if tie not in standing:
        raise NoTie("there is no such tie")
    return tie


class Kept:
    def __init__(self, n):
        if not is_count(n):
            raise NoCount("this is no count of places")
        self.n = n
        self.levels = Levels(n)
        # The wood of level 0 is the whole wood, and joins all that is joined.
        self.wood = self.levels.woods[0]
        self.came = 0
        self.looked = 0
        self.risen = 0
        self.lost = 0

    def receive(self, tie, weight):
        self.came += 1
        return self.levels.add(tie, weight)

    def out(self, a, b):
        tie = standing_tie(self.n, self.levels.level_of, a, b)
        # The credit that is lost hangs on the level that the tie has as it goes.
        self.lost += credit(self.n, [self.levels.told(tie)])
        trail = self.levels.take(tie)
        self.looked += looks(trail)
        self.risen += rises(trail)
        return trail

    def joined(self, a, b):
        return self.wood.joined(a, b)

    def way(self, a, b):
        return self.wood.way(a, b)

    def side(self, a):
        return self.wood.group(a)

    def ties(self):
        return sorted([self.levels.told(tie) for tie in self.levels.level_of])

    def account(self):
        return (self.came, self.looked, self.risen, self.lost, credit(self.n, self.ties()))
