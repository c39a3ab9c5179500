"""Whole numbers, counts, places and ties."""

MOST_PLACES = 200


def is_whole(thing):
    # To Python a truth is an int, too.
    return isinstance(thing, int) and not isinstance(thing, bool)


def is_count(thing):
    return is_whole(thing) and 1 <= thing <= MOST_PLACES


def is_place(n, thing):
    return is_whole(thing) and 0 <= thing < n


def top(n):
    level = 0
    # It begins with what level 1 asks for: level 0 is told where there is none, too.
    needed = 4
    while needed <= n:
        level += 1
        needed *= 2
    return level


def tie_of(a, b):
    return (a, b) if a < b else (b, a)
