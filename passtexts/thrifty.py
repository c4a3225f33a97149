"""Thrifty programs: whatever a register holds comes into what is written at most once."""

from passtexts.errors import NotThrifty
from passtexts.living import is_live
from passtexts.parts import is_state
from passtexts.paths import first_texts, path_of, steps_into
from passtexts.programs import check_program
from passtexts.rows import ascending, first_double, names_in, names_in_rows
from passtexts.values import is_made_of, tupled


class Thrifty:
    """Shows that a program is thrifty, by the registers that are live at its states."""

    def __init__(self, lives):
        self.lives = [tupled(pair) for pair in lives]

    def __bool__(self):
        return True

    def __eq__(self, other):
        return isinstance(other, Thrifty) and tupled(self.lives) == tupled(other.lives)

    def shows(self, program):
        """Whether the pairs are such, closed under going back from the ends."""
        check_program(program)
        lives = tupled(self.lives)
        if not all([is_pair(program, pair) for pair in lives]):
            return False
        told = {pair: True for pair in lives}
        into = steps_into(program)
        return ends_are_told(program, into, told) and steps_are_told(program, into, told)


class Twice:
    """Shows that a program is not thrifty, by a register whose content comes in twice."""

    def __init__(self, text, rest, name):
        self.text = text
        self.rest = rest
        self.name = name

    def __bool__(self):
        return False

    def __eq__(self, other):
        return (isinstance(other, Twice) and self.text == other.text and self.rest == other.rest
                and self.name == other.name)

    def shows(self, program):
        """Whether the register is met twice, going back from the end of both texts to that of the first one."""
        check_program(program)
        if not is_made_of(self.text, program.letters) or not is_made_of(self.rest, program.letters):
            return False
        return self.name in program.registers and times_met(program, self.text, self.rest, self.name) > 1


def is_plain(program):
    """Whether no register stands twice in the rows of a step, taken together, or in the row of an end."""
    check_program(program)
    for key in program.steps:
        if first_double(names_in_rows(program.steps[key][1], program.registers)) is not None:
            return False
    return all([first_double(names_in(program.ends[state])) is None for state in program.ends])


def judge_thrifty(program):
    """A Thrifty, if the program is thrifty, otherwise a Twice."""
    check_program(program)
    texts = first_texts(program.letters, program.steps)
    rests = {}
    for state in program.ends:
        if state in texts:
            names = names_in(program.ends[state])
            double = first_double(names)
            if double is not None:
                return Twice(texts[state], "", double)
            rests[(state, ascending(names))] = ""
    return followed_back(program, texts, rests)


def followed_back(program, texts, rests):
    """What judge_thrifty returns, from the pairs of the ends on, with the rests of texts behind them."""
    into = steps_into(program)
    waiting = list(rests)
    at = 0
    while at < len(waiting):
        pair = waiting[at]
        at = at + 1
        for state, letter in into[pair[0]]:
            names = names_in_rows(program.steps[(state, letter)][1], pair[1])
            double = first_double(names)
            if double is not None:
                return Twice(texts[state], letter + rests[pair], double)
            ahead = (state, ascending(names))
            if ahead not in rests:
                rests[ahead] = letter + rests[pair]
                waiting.append(ahead)
    return Thrifty(sorted(rests))


def check_thrifty(program):
    """Refuses a program that is not thrifty."""
    if not isinstance(judge_thrifty(program), Thrifty):
        raise NotThrifty("the content of a register comes in twice")


def is_pair(program, pair):
    """Whether it is a pair of a state and an ascending tuple of registers."""
    if not isinstance(pair, tuple) or len(pair) != 2:
        return False
    return is_state(pair[0], program.states) and is_live(program, pair[1])


def ends_are_told(program, into, told):
    """Whether the pair of each reached state with an end is told, and no register stands twice in its row."""
    for state in program.ends:
        if state in into:
            names = names_in(program.ends[state])
            if first_double(names) is not None or (state, ascending(names)) not in told:
                return False
    return True


def steps_are_told(program, into, told):
    """Whether for each pair the ones ahead of it are told, and no register stands twice in their rows."""
    for state, live in told:
        for before, letter in into.get(state, []):
            names = names_in_rows(program.steps[(before, letter)][1], live)
            if first_double(names) is not None or (before, ascending(names)) not in told:
                return False
    return True


def times_met(program, text, rest, name):
    """How often a register is met behind a text, going back from the end behind a rest; 2 stands for more, too."""
    whole = text + rest
    path = path_of(program, whole)
    if path[-1] not in program.ends:
        return 0
    times = times_in({"": program.ends[path[-1]]}, {"": 1})
    for place in reversed(range(len(text), len(whole))):
        times = times_in(program.steps[(path[place], whole[place])][1], times)
    return times.get(name, 0)


def times_in(rows, times):
    """How often registers are met in the rows of others that are met so often, counted as far as 2."""
    found = {}
    for told in times:
        for name in names_in(rows[told]):
            found[name] = min(2, found.get(name, 0) + times[told])
    return found
