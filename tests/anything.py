"""Things of any kind and form, where anything at all may be handed in."""


def same(one, other):
    """Tell whether two things are the same, kinds and all: 1 is no truth, and a list no tuple."""
    if type(one) is not type(other):
        return False
    if isinstance(one, (list, tuple)):
        return len(one) == len(other) and all(map(same, one, other))
    return one == other


def others_than(thing):
    """Tell other things that might stand in the place of a thing."""
    if isinstance(thing, int):
        return [thing - 1, thing + 1, -thing, thing + 10 ** 39, bool(thing), not thing, str(thing), [thing], None]
    if isinstance(thing, str):
        return ["", thing + "a", thing.upper(), " " + thing, "x" * 31, 0, True, None, [thing], (thing,)]
    turned = list(thing) if isinstance(thing, tuple) else tuple(thing)
    told = [turned, type(thing)(), None, 0, True, "".join(map(str, thing)), [thing], (thing,), thing[::-1]]
    for more in (1, "a", "zz", None, False, [], (), ["a"], (0, 1), (0, 1, 0), (0, 1, (1, 1))):
        told.append(thing + type(thing)([more]))
    for at, one in enumerate(thing):
        told.append(thing[:at] + thing[at + 1:])
        told.append(thing[:at] + thing[at:at + 1] + thing[at:])
        told.append(thing + type(thing)([one]))
    return told


def variants(thing):
    """Tell all things that come of changing a thing at one place of it, whatever is nested there."""
    yield from others_than(thing)
    if isinstance(thing, (list, tuple)):
        for at, one in enumerate(thing):
            for other in variants(one):
                yield thing[:at] + type(thing)([other]) + thing[at + 1:]
