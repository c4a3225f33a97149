"""Scripts as programs, and programs as scripts."""

from passtexts.alike import judge_same
from passtexts.errors import TooLarge
from passtexts.paths import first_texts
from passtexts.programs import check_program, made
from passtexts.scriptreading import RESERVED
from passtexts.scripts import Script, check_script
from passtexts.statements import ROW, SUM
from passtexts.unfolding import Unfolding
from passtexts.values import word_of

MOST_NAMES = 30
MOST_STEPS = 60


def states_of(script):
    """The list of the dicts of counters to which texts lead, None where it is stopped."""
    check_script(script)
    unfolding = Unfolding(script)
    return [unfolding.counters_at(place) for place in unfolding.places.told]


def compiled(script):
    """The program of a script, with a state for each of its states."""
    check_script(script)
    unfolding = Unfolding(script)
    places = unfolding.places
    steps, ends = {}, {}
    for number, place in enumerate(places.told):
        for letter, following in zip(script.letters, places.moves[number]):
            steps[(number, letter)] = (following, unfolding.rows[(place, letter)])
        row = unfolding.row_at(place)
        if row is not None:
            ends[number] = row
    return made(script.letters, len(places.told), list(script.texts), script.texts, steps, ends)


def judge_scripts(one, other):
    """What judge_same returns for the programs of two scripts."""
    check_script(one)
    check_script(other)
    return judge_same(compiled(one), compiled(other))


def script_of(program):
    """The script that writes what a program writes: a counter tells its state."""
    check_program(program)
    if len(program.registers) > MOST_NAMES or len(program.steps) > MOST_STEPS:
        raise TooLarge("too many registers, or pairs of a state and a letter")
    names = Names(program)
    reached = sorted(first_texts(program.letters, program.steps))
    rules = []
    for state in reached:
        for letter in program.letters:
            following, rows = program.steps[(state, letter)]
            statements = names.statements_for(rows)
            if following != state:
                statements.append((SUM, names.counter, following, 0))
            if statements:
                rules.append((letter, names.guard(state), tuple(statements)))
    ends = [(names.guard(state), names.row(program.ends[state])) for state in reached if state in program.ends]
    texts = {names.texts[name]: program.firsts[name] for name in program.registers}
    texts.update({name: "" for name in names.used})
    return Script(program.letters, {names.counter: reached[-1]}, texts, [], rules, ends)


class Names:
    """Names for the registers of a program as texts of a script, for texts beside these, and for the counter.

    used has those of the texts beside these that statements take.
    """

    def __init__(self, program):
        many = len(program.registers)
        # a register keeps its name, if scripts have no other meaning for that word
        barred = {name: True for name in list(RESERVED) + program.registers}
        fresh = names_but_for(barred, 2 * many + 1)
        self.counter = fresh[0]
        self.texts = {}
        self.beside = {}
        for name, other, beside in zip(program.registers, fresh[1:], fresh[many + 1:]):
            self.texts[name] = other if name in RESERVED else name
            self.beside[name] = beside
        self.used = {}

    def guard(self, state):
        """The guard that holds in a state."""
        return ("=", self.counter, state)

    def row(self, row):
        """The row of these names."""
        return tuple([item if isinstance(item, str) else (self.texts[item[0]],) for item in row])

    def statements_for(self, rows):
        """The list of the statements by which all texts take their rows at once."""
        changed = [name for name in rows if rows[name] != ((name,),)]
        if len(changed) < 2:
            return [(ROW, self.texts[name], self.row(rows[name])) for name in changed]
        for name in changed:
            self.used[self.beside[name]] = True
        taken = [(ROW, self.beside[name], self.row(rows[name])) for name in changed]
        given = [(ROW, self.texts[name], ((self.beside[name],),)) for name in changed]
        # what is left beside would be a copy
        return taken + given + [(ROW, self.beside[name], ()) for name in changed]


def names_but_for(barred, many):
    """The list of so many names that are none of these."""
    found = []
    number = 0
    while len(found) < many:
        name = word_of(number)
        if name not in barred:
            found.append(name)
        number = number + 1
    return found
