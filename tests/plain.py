"""Plain reckonings that the tests hold the program's answers against; slow, and by other roads than the program's."""
import itertools


def plain_groups(n, ties):
    # By names of groups that are made alike tie by tie.
    name = list(range(n))
    for a, b in ties:
        old, new = name[a], name[b]
        name = [new if each == old else each for each in name]
    return sorted([place for place in range(n) if name[place] == each] for each in set(name))


def simple_ways(ties, a, b):
    # All of them, each made longer place by place as long as it stays simple.
    beside = {}
    for x, y in ties:
        beside.setdefault(x, []).append(y)
        beside.setdefault(y, []).append(x)
    told = []
    begun = [[a]]
    while begun:
        way = begun.pop()
        if way[-1] == b:
            told.append(way)
        else:
            begun.extend(way + [place] for place in beside.get(way[-1], []) if place not in way)
    return told


def only_way(ties, a, b):
    ways = simple_ways(ties, a, b)
    assert len(ways) == 1, (ties, a, b, ways)
    return ways[0]


def is_tree(places, ties):
    return all(len(simple_ways(ties, a, b)) == 1 for a in places for b in places)


def ties_of_row(row):
    return sorted({tuple(sorted(pair)) for pair in zip(row, row[1:])})


def every_tree(places):
    pairs = list(itertools.combinations(sorted(places), 2))
    for ties in itertools.combinations(pairs, len(places) - 1):
        if is_tree(places, ties):
            yield list(ties)


def every_round(ties, a):
    # By the next step that is still free; what comes back to a with all steps gone is a round.
    free = set(ties) | {(y, x) for x, y in ties}
    begun = [([a], free)]
    while begun:
        row, left = begun.pop()
        if not left and row[-1] == a:
            yield row
        begun.extend((row + [y], left - {(x, y)}) for x, y in sorted(left) if x == row[-1])


def every_small_round(most):
    for k in range(1, most + 1):
        for ties in every_tree(range(k)):
            for a in range(k):
                for row in every_round(ties, a):
                    yield row, ties


def random_tree(source, places):
    # Each place is tied to one of those ahead of it in a shuffled row.
    places = source.sample(places, len(places))
    ties = [(source.choice(places[:k]), places[k]) for k in range(1, len(places))]
    return [tuple(sorted(tie)) for tie in ties]


def random_round(source, ties, a):
    left = {}
    for x, y in ties:
        left.setdefault(x, []).append(y)
        left.setdefault(y, []).append(x)
    row, way = [a], [a]
    while way:
        onward = [place for place in left.get(way[-1], []) if place not in way]
        if onward:
            way.append(source.choice(onward))
            left[way[-2]].remove(way[-1])
        else:
            way.pop()
        row.extend(way[-1:])
    return row
