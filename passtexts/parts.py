"""The parts of a program: whether they are as told."""

from passtexts.values import is_number, is_text, is_word

MOST_LETTERS = 4
MOST_STATES = 300
MOST_REGISTERS = 60


def first_wrong(letters, states, registers, firsts, steps, ends):
    """The name of the first part of a program that is not as told, None if all are."""
    if not are_letters(letters):
        return "letters"
    if not is_number(states) or not 1 <= states <= MOST_STATES:
        return "states"
    if not are_registers(registers):
        return "registers"
    known = {name: True for name in registers}
    if not are_firsts(firsts, known):
        return "firsts"
    if not are_steps(steps, letters, states, known):
        return "steps"
    if not are_ends(ends, states, known):
        return "ends"
    return None


def are_letters(letters):
    """Whether these are 1 to 4 different signs."""
    return is_text(letters) and 1 <= len(letters) <= MOST_LETTERS and len(set(letters)) == len(letters)


def are_registers(registers):
    """Whether these are different words, not too many."""
    if not isinstance(registers, (list, tuple)) or len(registers) > MOST_REGISTERS:
        return False
    return all([is_word(name) for name in registers]) and len(set(registers)) == len(registers)


def are_firsts(firsts, known):
    """Whether this is a dict from known registers to texts."""
    return isinstance(firsts, dict) and all([name in known and is_text(firsts[name]) for name in firsts])


def are_steps(steps, letters, states, known):
    """Whether this is a dict from all pairs of a state and a letter to steps."""
    # as many keys as there are pairs, each of them a pair, are all of the pairs
    if not isinstance(steps, dict) or len(steps) != states * len(letters):
        return False
    return all([is_place(key, letters, states) and is_step(steps[key], states, known) for key in steps])


def is_place(key, letters, states):
    """Whether it is a pair of a state and a letter."""
    if not isinstance(key, tuple) or len(key) != 2:
        return False
    state, letter = key
    return is_state(state, states) and isinstance(letter, str) and len(letter) == 1 and letter in letters


def is_state(state, states):
    """Whether it is one of so many states."""
    return is_number(state) and 0 <= state < states


def is_step(step, states, known):
    """Whether it is a pair of a state and a dict from known registers to rows."""
    return isinstance(step, tuple) and len(step) == 2 and is_state(step[0], states) and are_rows(step[1], known)


def are_rows(rows, known):
    """Whether this is a dict from known registers to rows."""
    return isinstance(rows, dict) and all([name in known and is_row(rows[name], known) for name in rows])


def is_row(row, known):
    """Whether it is a tuple of texts and of tuples of one known register."""
    return isinstance(row, tuple) and all([is_text(item) or is_held(item, known) for item in row])


def is_held(item, known):
    """Whether it is a tuple of one known register."""
    return isinstance(item, tuple) and len(item) == 1 and isinstance(item[0], str) and item[0] in known


def are_ends(ends, states, known):
    """Whether this is a dict from states to rows."""
    return isinstance(ends, dict) and all([is_state(state, states) and is_row(ends[state], known) for state in ends])
