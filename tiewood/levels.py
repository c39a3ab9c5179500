"""Ties at levels, each in the wood or beside it, and the looking for one that can stand for one that went."""

from tiewood.places import top
from tiewood.woods import Wood


def in_order(ties, weight_of):
    return sorted(ties, key=lambda tie: (weight_of[tie], tie))


def ends_within(tie, side):
    return len([place for place in tie if place in side])


class Levels:
    def __init__(self, n):
        self.level_of = {}
        self.wooden = {}
        # Ties without weights are all given the same one, so that the order of the places alone is left.
        self.weight_of = {}
        # For each level the ties in the wood that have it or a higher one.
        self.woods = [Wood(n) for level in range(top(n) + 1)]

    def add(self, tie, weight):
        self.level_of[tie] = 0
        self.wooden[tie] = False
        self.weight_of[tie] = weight
        if not self.woods[0].joined(tie[0], tie[1]):
            self.adopt(tie)
        return self.wooden[tie]

    def adopt(self, tie):
        self.wooden[tie] = True
        for wood in self.woods[:self.level_of[tie] + 1]:
            wood.link(tie[0], tie[1])

    def lift(self, tie):
        self.level_of[tie] += 1
        if self.wooden[tie]:
            self.woods[self.level_of[tie]].link(tie[0], tie[1])

    def drop(self, tie):
        self.weight_of.pop(tie)
        level = self.level_of.pop(tie)
        if self.wooden.pop(tie):
            for wood in self.woods[:level + 1]:
                wood.cut(tie[0], tie[1])

    def at_level(self, level, wooden):
        ties = [tie for tie in self.level_of if self.level_of[tie] == level]
        return in_order([tie for tie in ties if self.wooden[tie] == wooden], self.weight_of)

    def told(self, tie):
        return (tie[0], tie[1], self.level_of[tie], self.wooden[tie])

    def lesser_side(self, level, tie):
        wood = self.woods[level]
        # A tie has its lesser place first, so that one's group is told where both have as many places.
        return wood.group(tie[0] if wood.size(tie[0]) <= wood.size(tie[1]) else tie[1])

    def look(self, level, tie):
        side = self.lesser_side(level, tie)
        risen = [other for other in self.at_level(level, True) if ends_within(other, side) == 2]
        for other in risen:
            self.lift(other)
        for other in self.at_level(level, False):
            ends = ends_within(other, side)
            if ends == 1:
                self.adopt(other)
                return (level, side, sorted(risen), other)
            if ends == 2:
                self.lift(other)
                risen.append(other)
        return (level, side, sorted(risen), None)

    def take(self, tie):
        level = self.level_of[tie]
        # A tie beside the wood holds nothing together, so none is looked for in its stead.
        looking = self.wooden[tie]
        self.drop(tie)
        trail = []
        while looking and level >= 0:
            trail.append(self.look(level, tie))
            looking = trail[-1][3] is None
            level -= 1
        return trail
