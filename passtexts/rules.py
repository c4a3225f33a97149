"""Whether one word may always stand in the place of another one."""

from passtexts.alike import judge_same
from passtexts.errors import BadWord, TooLarge
from passtexts.living import thrifty_text, useful_registers
from passtexts.needless import trimmed
from passtexts.programs import check_program, made
from passtexts.thrifty import check_thrifty
from passtexts.values import SIGNS, check_word, is_made_of
from passtexts.words import behind_word

MOST_LETTERS = 3
MOST_STATES = 140
LONGEST = 6


class Respected:
    """Shows that the first word may always stand in the place of the second one."""

    def __bool__(self):
        return True

    def __eq__(self, other):
        return isinstance(other, Respected)

    def shows(self, program, left, right):
        """Whether it is so, which is decided anew."""
        check_asked(program, left, right)
        return differing(program, left, right) is None


class Broken:
    """Shows that it may not, by a text ahead and a text behind."""

    def __init__(self, ahead, behind):
        self.ahead = ahead
        self.behind = behind

    def __bool__(self):
        return False

    def __eq__(self, other):
        return isinstance(other, Broken) and self.ahead == other.ahead and self.behind == other.behind

    def shows(self, program, left, right):
        """Whether unlike things are written with the words between these texts."""
        check_asked(program, left, right)
        if not is_made_of(self.ahead, program.letters) or not is_made_of(self.behind, program.letters):
            return False
        written = [thrifty_text(program, self.ahead + word + self.behind) for word in (left, right)]
        return written[0] != written[1]


def judge_rule(program, left, right):
    """A Respected, if the first word may always stand in the place of the second one, otherwise a Broken."""
    check_asked(program, left, right)
    found = differing(program, left, right)
    if found is None:
        return Respected()
    return Broken(found[0], found[1])


def ignored(program):
    """The text of the letters, ascending, each of which may always be left out."""
    check_few(program)
    return "".join([letter for letter in program.letters if differing(program, letter, "") is None])


def exchanged(program):
    """The ascending list of the pairs of letters, the lesser one first, that may always change places."""
    check_few(program)
    letters = program.letters
    pairs = [(one, other) for one in letters for other in letters if one < other]
    return [(one, other) for one, other in pairs if differing(program, one + other, other + one) is None]


def check_few(program):
    """Refuses what is no thrifty program with few letters and states."""
    check_program(program)
    check_thrifty(program)
    if len(program.letters) > MOST_LETTERS or program.states > MOST_STATES:
        raise TooLarge("too many letters or states")


def check_asked(program, left, right):
    """Refuses what a rule cannot be asked for."""
    check_few(program)
    for word in (left, right):
        check_word(program.letters, word)
        if len(word) > LONGEST:
            raise BadWord(LONGEST)


def differing(program, left, right):
    """The pair of texts ahead and behind by which unlike things are written with two words, None without one."""
    least = trimmed(program)
    mark = [sign for sign in SIGNS if sign not in program.letters][0]
    found = judge_same(marked(least, mark, left), marked(least, mark, right))
    if found:
        return None
    ahead, _, behind = found.text.partition(mark)
    return ahead, behind


def marked(program, mark, word):
    """The program, whose states are all reached, that reads a mark just once, as the word."""
    many = program.states
    useful = useful_registers(program)
    refusing = many * 2
    steps = {}
    for state in range(many):
        for letter in program.letters:
            following, rows = program.steps[(state, letter)]
            steps[(state, letter)] = (following, rows)
            steps[(state + many, letter)] = (following + many, rows)
        steps[(state, mark)] = read_as_mark(program, state, word, useful)
        steps[(state + many, mark)] = (refusing, {})
    for letter in program.letters + mark:
        steps[(refusing, letter)] = (refusing, {})
    ends = {state + many: program.ends[state] for state in program.ends}
    return made(program.letters + mark, many * 2 + 1, program.registers, program.firsts, steps, ends)


def read_as_mark(program, state, word, useful):
    """The step from a state ahead of the mark to the one behind it."""
    following = state
    for letter in word:
        following = program.steps[(following, letter)][0]
    _, rows = behind_word(program, state, word, useful[following])
    # what is not useful behind the mark may have rows that are too long to be told
    return following + program.states, {name: rows.get(name, ()) for name in program.registers}
