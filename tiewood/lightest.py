"""A lightest wood: ties with weights, all told at its begin, are taken out, and the lightest wood of them is kept."""

from tiewood.kept import Kept, new_tie
from tiewood.levels import in_order


class Lightest(Kept):
    def __init__(self, n, weighed):
        Kept.__init__(self, n)
        weights = {}
        for a, b, weight in weighed:
            tie = new_tie(n, weights, a, b)
            weights[tie] = weight
        for tie in in_order(weights, weights):
            self.receive(tie, weights[tie])

    def weight(self):
        return sum([self.levels.weight_of[tie] for tie in self.wood.ties()])
