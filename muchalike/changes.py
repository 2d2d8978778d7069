"""Texts few changes apart: pieces, changes in a row, and tables that show that no fewer do."""

from muchalike.bags import common_of_lists
from muchalike.errors import NoSize
from muchalike.forms import are_listed_wholes, is_whole
from muchalike.sets import all_pairs


def _check_size(size):
    """Refuse a size of pieces that is below 1."""
    if size < 1:
        raise NoSize("pieces have one sign at least")


def pieces(text, size):
    """Tell all texts of so many signs that stand in a text side by side, from left to right."""
    _check_size(size)
    return [text[at:at + size] for at in range(len(text) - size + 1)]


def _is_sign(thing):
    """Tell whether a thing is a text of one sign from the blank to the tilde."""
    return isinstance(thing, str) and len(thing) == 1 and " " <= thing <= "~"


def _is_place(thing, many):
    """Tell whether a thing is the number of one of so many places."""
    return is_whole(thing) and 0 <= thing < many


def _changed_once(text, change):
    """Tell the text that comes of a change, or None where it can't be done or is none."""
    if len(change) == 2 and change[0] == "out" and _is_place(change[1], len(text)):
        return text[:change[1]] + text[change[1] + 1:]
    if len(change) != 3 or not _is_sign(change[2]):
        return None
    if change[0] == "in" and _is_place(change[1], len(text) + 1):
        return text[:change[1]] + change[2] + text[change[1]:]
    if change[0] == "for" and _is_place(change[1], len(text)):
        return text[:change[1]] + change[2] + text[change[1] + 1:]
    return None


def changed(text, changes):
    """Tell the text that comes of changes in a row, or None where one of them can't be done or is none."""
    told = text
    for change in changes:
        told = _changed_once(told, change)
        if told is None:
            return None
    return told


def _most_at(one, other, table, i, j):
    """Tell how great the number at a crossing of a table may be, by those above and at the left."""
    if i == 0 and j == 0:
        return 0
    bounds = []
    if i > 0:
        bounds.append(table[i - 1][j] + 1)
    if j > 0:
        bounds.append(table[i][j - 1] + 1)
    if i > 0 and j > 0:
        bounds.append(table[i - 1][j - 1] + (0 if one[i - 1] == other[j - 1] else 1))
    return min(bounds)


def _filled(one, other):
    """Tell the table whose numbers are as great as they may be: how far beginnings of both are apart."""
    table = []
    for i in range(len(one) + 1):
        row = []
        table.append(row)
        for j in range(len(other) + 1):
            row.append(_most_at(one, other, table, i, j))
    return table


def _changes_by(one, other, table):
    """Tell as few changes as any that lead from the one text to the other, by their filled table."""
    i = len(one)
    j = len(other)
    changes = []
    # From right to left: so no change moves the place of one that is still to be done.
    while i > 0 or j > 0:
        if i > 0 and table[i][j] == table[i - 1][j] + 1:
            i -= 1
            changes.append(("out", i))
        elif j > 0 and table[i][j] == table[i][j - 1] + 1:
            j -= 1
            changes.append(("in", i, other[j]))
        else:
            i -= 1
            j -= 1
            if one[i] != other[j]:
                changes.append(("for", i, other[j]))
    return changes


def apart(one, other):
    """Tell how far two texts are apart, so many changes that lead there, and a table that shows that no fewer do."""
    table = _filled(one, other)
    return (table[-1][-1], _changes_by(one, other, table), table)


def is_table(one, other, table):
    """Tell whether anything at all is a table of two texts."""
    if not isinstance(table, list) or len(table) != len(one) + 1:
        return False
    if not all([are_listed_wholes(row, len(other) + 1) for row in table]):
        return False
    crossings = [(i, j) for i in range(len(one) + 1) for j in range(len(other) + 1)]
    return table[0][0] == 0 and all([table[i][j] <= _most_at(one, other, table, i, j) for i, j in crossings])


def _may_be_near(one, other, most, size):
    """Tell whether two texts have as many pieces in common as such at most so far apart have."""
    if abs(len(one) - len(other)) > most:
        return False
    due = max(len(one), len(other)) + 1 - size - size * most
    return common_of_lists(pieces(one, size), pieces(other, size), {}) >= due


def near_pairs(texts, most, size):
    """Tell the pairs of texts at most so far apart, each with how far, and the pairs held for it."""
    if most < 0:
        raise NoSize("no two texts are fewer than no changes apart")
    _check_size(size)
    held = [(i, j) for i, j in all_pairs(len(texts)) if _may_be_near(texts[i], texts[j], most, size)]
    measured = [(i, j, apart(texts[i], texts[j])[0]) for i, j in held]
    return ([(i, j, far) for i, j, far in measured if far <= most], held)
