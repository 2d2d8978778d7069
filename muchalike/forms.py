"""What things are made of, where anything at all may be handed in."""


def is_whole(thing):
    """Tell whether a thing is a whole number; a truth is none."""
    return isinstance(thing, int) and not isinstance(thing, bool)


def are_wholes(thing, many):
    """Tell whether a thing is a tuple of as many whole numbers."""
    return isinstance(thing, tuple) and len(thing) == many and all(is_whole(number) for number in thing)


def are_listed_wholes(thing, many):
    """Tell whether a thing is a list of as many whole numbers."""
    return isinstance(thing, list) and len(thing) == many and all(is_whole(number) for number in thing)


def are_texts(thing):
    """Tell whether a thing is a list of texts."""
    return isinstance(thing, list) and all(isinstance(text, str) for text in thing)
