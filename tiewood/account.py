"""What the looking costs, and what the ties have left to pay for it."""

from tiewood.places import top


def credit(n, ties):
    return sum([top(n) - level for a, b, level, in_wood in ties])


def rises(trail):
    return sum([len(risen) for level, side, risen, found in trail])


def looks(trail):
    finds = [found for level, side, risen, found in trail if found is not None]
    return rises(trail) + 1 if finds else rises(trail)
