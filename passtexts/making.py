"""Programs that are made from others."""

from passtexts.errors import TooLarge, Unlike
from passtexts.places import Places
from passtexts.programs import check_program, made
from passtexts.sets import check_set
from passtexts.together import Together, items_behind_word
from passtexts.values import SIGNS, check_word, is_text
from passtexts.words import behind_word

MOST_ITEMS = 400
MOST_SIGNS = 4
LONGEST = 6


def beside(one, other):
    """The program that writes what one writes, and behind it what the other one writes."""
    check_program(one)
    check_program(other)
    check_letters(one, other)
    together = Together([one, other], None)
    return together.as_one(lambda place: behind_one_another(together.out(place, 0), together.out(place, 1)))


def chosen(texts, one, other):
    """The program that does what one does for the texts of a set, what the other one does for all others."""
    check_set(texts)
    check_program(one)
    check_program(other)
    check_letters(texts, one)
    check_letters(texts, other)
    together = Together([one, other], texts)
    return together.as_one(lambda place: together.out(place, 0 if together.has(place) else 1))


def kept(program, texts):
    """The program that refuses the texts that are not in a set."""
    check_program(program)
    check_set(texts)
    check_letters(program, texts)
    together = Together([program], texts)
    return together.as_one(lambda place: together.out(place, 0) if together.has(place) else None)


def turned(program):
    """The program that writes what this one writes, turned about."""
    check_program(program)
    return with_texts(program, lambda text: text[::-1], -1)


def respelled(program, signs):
    """The program that writes what this one writes, with texts in the place of signs."""
    check_program(program)
    if not isinstance(signs, dict) or not all([is_sign(sign) and is_text(signs[sign]) for sign in signs]):
        raise Unlike("signs")
    return with_texts(program, lambda text: "".join([signs.get(sign, sign) for sign in text]), 1)


def read_as(program, words):
    """The program that does for letters what this one does for words in their places."""
    check_program(program)
    if not are_words(words):
        raise Unlike("words")
    letters = "".join(sorted(words))
    for letter in letters:
        check_word(program.letters, words[letter])
    places = Places(0, letters, lambda state, letter: state_behind(program, state, words[letter]), None)
    steps = {}
    for number, state in enumerate(places.told):
        for letter, following in zip(letters, places.moves[number]):
            check_items(items_behind_word(program, state, words[letter]))
            steps[(number, letter)] = (following, behind_word(program, state, words[letter], program.registers)[1])
    ends = {number: program.ends[state] for number, state in enumerate(places.told) if state in program.ends}
    for number in ends:
        check_items(len(ends[number]))
    return made(letters, len(places.told), program.registers, program.firsts, steps, ends)


def check_letters(one, other):
    """Refuses what reads unlike letters."""
    if one.letters != other.letters:
        raise Unlike("letters")


def check_items(many):
    """Refuses a row of too many items."""
    if many > MOST_ITEMS:
        raise TooLarge("too many items in a row")


def is_sign(thing):
    """Whether it is one sign."""
    return isinstance(thing, str) and len(thing) == 1 and thing in SIGNS


def are_words(words):
    """Whether this is a dict from 1 to 4 signs to short texts."""
    if not isinstance(words, dict) or not 1 <= len(words) <= MOST_SIGNS or not all([is_sign(sign) for sign in words]):
        return False
    return all([is_text(words[sign]) and len(words[sign]) <= LONGEST for sign in words])


def behind_one_another(row, other_row):
    """The row of both, None if one of them is none."""
    return None if row is None or other_row is None else row + other_row


def state_behind(program, state, word):
    """The state behind a word."""
    for letter in word:
        state = program.steps[(state, letter)][0]
    return state


def with_texts(program, change, turn):
    """The program with the texts of rows and first contents changed by a function, and rows turned by -1."""
    firsts = {name: change(program.firsts[name]) for name in program.registers}
    steps = {}
    for key in program.steps:
        following, rows = program.steps[key]
        steps[key] = (following, {name: changed_row(rows[name], change, turn) for name in rows})
    ends = {state: changed_row(program.ends[state], change, turn) for state in program.ends}
    return made(program.letters, program.states, program.registers, firsts, steps, ends)


def changed_row(row, change, turn):
    """The row with its texts changed by a function, turned about by -1."""
    return tuple([change(item) if isinstance(item, str) else item for item in row[::turn]])
