"""Deciding something of two programs for all texts, and finding the first text for which it is not so."""

from passtexts.errors import TooLarge
from passtexts.reading import first_apart

FEW = 30
MANY = 300
SMALL = 100


def decided(first, second, apart, decide):
    """The first text for which what two readers write is apart, and what decide() tells of them.

    Either is None: decide() tells None where there is such a text.
    """
    # most programs that differ do so soon, and texts are read faster than signs are followed; but for small ones
    # to follow all signs takes less time than to read many texts
    small = first.size() * second.size() <= SMALL
    text = first_apart(first, second, FEW if small else MANY, apart)
    if text is not None:
        return text, None
    try:
        found = decide()
    except TooLarge:
        found = None
        if not small or first_apart(first, second, MANY, apart) is None:
            raise
    if found is not None:
        return None, found
    return first_apart(first, second, None, apart), None
