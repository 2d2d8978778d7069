"""Groups of numbers, and the chains of pairs that lead from one number to another."""


def _neighbours(pairs, many):
    """Tell for each number below the count those that stand in a pair with it, rising."""
    beside = [{} for _ in range(many)]
    for pair in pairs:
        beside[pair[0]][pair[1]] = True
        beside[pair[1]][pair[0]] = True
    return [sorted(numbers) for numbers in beside]


def _reached_from(start, neighbours):
    """Tell for each number to which chains lead from the start the one ahead of it in a shortest one."""
    ahead = {start: None}
    edge = [start]
    while edge:
        further = []
        for number in edge:
            for other in neighbours[number]:
                if other not in ahead:
                    ahead[other] = number
                    further.append(other)
        edge = further
    return ahead


def groups(pairs, many):
    """Tell the groups of the numbers below the count, each rising, by their least numbers."""
    neighbours = _neighbours(pairs, many)
    grouped = {}
    told = []
    for number in range(many):
        if number not in grouped:
            group = sorted(_reached_from(number, neighbours))
            grouped.update({member: True for member in group})
            told.append(group)
    return told


def chain(pairs, many, i, j):
    """Tell a chain of as few numbers as any from i to j, or None where there is none."""
    # From the end, the number ahead of each one is the next on the way to the end.
    ahead = _reached_from(j, _neighbours(pairs, many))
    if i not in ahead:
        return None
    told = []
    number = i
    while number is not None:
        told.append(number)
        number = ahead[number]
    return told


def is_chain(pairs, some):
    """Tell whether a list of whole numbers is a chain."""
    beside = {(pair[0], pair[1]) for pair in pairs}
    steps = [(some[at], some[at + 1]) for at in range(len(some) - 1)]
    return len(some) > 0 and all([(i, j) in beside or (j, i) in beside for i, j in steps])


def is_closed(pairs, some):
    """Tell whether each pair has both its numbers in a list of unlike whole numbers, or none."""
    inside = set(some)
    return all([(pair[0] in inside) == (pair[1] in inside) for pair in pairs])
