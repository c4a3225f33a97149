"""Numbers, texts and words: what counts as one."""

from passtexts.errors import BadWord

SMALL = "abcdefghijklmnopqrstuvwxyz"
SIGNS = "0123456789abcdefghijklmnopqrstuvwxyz"


def is_number(thing):
    """Whether it is an integer; booleans are none."""
    return isinstance(thing, int) and not isinstance(thing, bool)


def is_made_of(thing, signs):
    """Whether it is a string of these signs alone."""
    # strip stops at the first sign of another kind, from both ends, so nothing is left only if there is none
    return isinstance(thing, str) and thing.strip(signs) == ""


def is_text(thing):
    """Whether it is a text: a string of small letters and figures."""
    return is_made_of(thing, SIGNS)


def is_word(thing):
    """Whether it can be the name of something: 1 to 8 small letters."""
    return is_made_of(thing, SMALL) and 1 <= len(thing) <= 8


def check_word(letters, text):
    """Refuses what is no text of these letters."""
    if not isinstance(text, str):
        raise BadWord(None)
    for place, letter in enumerate(text):
        if letter not in letters:
            raise BadWord(place)


def tupled(thing):
    """The same with tuples for lists, also within, as one may be given for the other."""
    if isinstance(thing, (list, tuple)):
        return tuple([tupled(part) for part in thing])
    return thing


def word_of(number):
    """The word with this number among all words of small letters, shorter ones first."""
    word = SMALL[number % 26]
    number = number // 26
    while number > 0:
        number = number - 1
        word = SMALL[number % 26] + word
        number = number // 26
    return word
