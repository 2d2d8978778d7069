"""Parts of words, and how many of them two sets agree in."""

from muchalike.errors import NoParts
from muchalike.sets import are_unlike_words, has_words_of, words_of
from muchalike.shares import need


def are_parts(parts, lot):
    """Tell whether a list of lists of texts is parts for the lot."""
    texts = [text for part in parts for text in part]
    return len(parts) > 0 and are_unlike_words(texts) and has_words_of(lot, texts)


def check_parts(parts, lot):
    """Refuse a list of lists of texts that is no parts for the lot."""
    if not are_parts(parts, lot):
        raise NoParts("parts have each word once in all, all those of the lot among them")


def even_parts(lot, many):
    """Tell as many parts of the lot's words, dealt out in turn in the order of texts."""
    if many < 1:
        raise NoParts("there is one part at least")
    words = words_of(lot)
    return [words[at::many] for at in range(many)]


def agree(one, other, parts):
    """Tell the numbers of the parts in which two sets have the same words."""
    unlike = {word: True for word in sorted(set(one) ^ set(other))}
    return [at for at, part in enumerate(parts) if not any(word in unlike for word in part)]


def must_agree(kind, least, a, b, many):
    """Tell in how many parts, of as many, sets of weights a and b agree if they are so much alike."""
    room = a + b - 2 * need(kind, least, a, b)
    return max(0, many - room)
