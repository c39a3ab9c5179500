"""Rounds of trees: ways that go along each tie just twice, once each way."""


def steps_along(row):
    return list(zip(row, row[1:]))


def is_round(row):
    along = steps_along(row)
    back = [(b, a) for a, b in along]
    each_way_once = len(set(along)) == len(along) and set(along) == set(back)
    # What a way joins is a tree just where it has one tie fewer than places.
    return len(row) == 2 * len(set(row)) - 1 and row[0] == row[-1] and each_way_once


def turned(row, a):
    k = row.index(a)
    return row[k:] + row[1:k + 1]


def spliced(row, other, a, b):
    k = row.index(a)
    return row[:k + 1] + turned(other, b) + row[k:]


def parted(row, a, b):
    along = steps_along(row)
    there = along.index((a, b))
    back = along.index((b, a))
    k = min(there, back)
    m = max(there, back)
    inner = row[k + 1:m + 1]
    outer = row[:k + 1] + row[m + 2:]
    return (outer, inner) if there < back else (inner, outer)


def way_in(row, a, b):
    ahead = turned(row, a)
    way = []
    for place in ahead[:ahead.index(b) + 1]:
        # In a tree a round comes again to a place of the way only by the tie that it left it by.
        if len(way) > 1 and way[-2] == place:
            way.pop()
        else:
            way.append(place)
    return way
