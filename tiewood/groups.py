"""What some ties join, and how far apart it is."""


def neighbours(n, ties):
    beside = [[] for place in range(n)]
    for a, b in ties:
        beside[a].append(b)
        beside[b].append(a)
    return beside


def one_step_on(beside, counted, edge):
    further = []
    for place in edge:
        for other in beside[place]:
            if counted[other] is None:
                counted[other] = counted[place] + 1
                further.append(other)
    return further


# The steps go into the asker's list, so that what earlier calls reached is not gone through again.
def spread(beside, counted, a):
    counted[a] = 0
    reached = []
    edge = [a]
    while edge:
        reached.extend(edge)
        edge = one_step_on(beside, counted, edge)
    return reached


def groups(n, ties):
    beside = neighbours(n, ties)
    counted = [None for place in range(n)]
    told = []
    # Each group is met at its least place first, so they come sorted.
    for place in range(n):
        if counted[place] is None:
            told.append(sorted(spread(beside, counted, place)))
    return told


def steps(n, ties, a):
    counted = [None for place in range(n)]
    spread(neighbours(n, ties), counted, a)
    return counted


def shortest(n, ties, a, b):
    # Counted from the end, the steps tell at each place which way is nearer.
    left = steps(n, ties, b)
    if left[a] is None:
        return None
    beside = neighbours(n, ties)
    way = [a]
    while way[-1] != b:
        way.append(min(beside[way[-1]], key=lambda other: left[other]))
    return way
