"""Sets of a lot that are within others."""

from muchalike.sets import check_sets, has_words_of


def within_pairs(lot):
    """Tell all (i, j) of unlike numbers where the i-th set is within the j-th, in order."""
    check_sets(lot)
    numbers = range(len(lot))
    return [(i, j) for i in numbers for j in numbers if i != j and has_words_of([lot[i]], lot[j])]


def tops(lot):
    """Tell the numbers of the sets that are within no set with other words, of like ones the least."""
    within = {pair: True for pair in within_pairs(lot)}
    below = {i: True for i, j in within if j < i or (j, i) not in within}
    return [i for i in range(len(lot)) if i not in below]
