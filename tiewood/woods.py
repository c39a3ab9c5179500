"""A wood: ties without a ring, kept as one round for each group."""

from tiewood.errors import Alike, Joined, NoPlace, NoTie
from tiewood.places import is_place
from tiewood.rounds import parted, spliced, steps_along, way_in


def refuse_no_place(n, thing):
    if not is_place(n, thing):
        raise NoPlace("this is no place of the count")


def refuse_no_places(n, a, b):
    refuse_no_place(n, a)
    refuse_no_place(n, b)


def refuse_no_pair(n, a, b):
    refuse_no_places(n, a, b)
    if a == b:
        raise Alike("a tie joins two unlike places")


class Wood:
    def __init__(self, n):
        self.n = n
        # Each place has the round of its group; a round is never changed, only another one put in its stead.
        self.rows = [[place] for place in range(n)]

    def keep(self, row):
        for place in row:
            self.rows[place] = row

    def link(self, a, b):
        refuse_no_pair(self.n, a, b)
        if self.joined(a, b):
            raise Joined("the two places are joined in the wood")
        self.keep(spliced(self.rows[a], self.rows[b], a, b))

    def cut(self, a, b):
        refuse_no_pair(self.n, a, b)
        if (a, b) not in steps_along(self.rows[a]):
            raise NoTie("the tie is not in the wood")
        for row in parted(self.rows[a], a, b):
            self.keep(row)

    def joined(self, a, b):
        refuse_no_places(self.n, a, b)
        # No place stands in two rounds, so the first one tells which round it is.
        return self.rows[a][0] == self.rows[b][0]

    def group(self, a):
        refuse_no_place(self.n, a)
        return sorted(set(self.rows[a]))

    def size(self, a):
        refuse_no_place(self.n, a)
        return (len(self.rows[a]) + 1) // 2

    def way(self, a, b):
        return way_in(self.rows[a], a, b) if self.joined(a, b) else None

    def ties(self):
        told = []
        for place, row in enumerate(self.rows):
            # All places of a group have the same round: it is gone through where it begins alone.
            if row[0] == place:
                told.extend([(a, b) for a, b in steps_along(row) if a < b])
        return sorted(told)
