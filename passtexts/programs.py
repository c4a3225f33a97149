"""Programs that read a text once and write with text registers."""

from passtexts.errors import BadProgram
from passtexts.parts import first_wrong
from passtexts.paths import first_texts
from passtexts.rows import row_of, text_of
from passtexts.values import check_word


class Program:
    """Reads a text letter by letter, puts the texts of its registers together anew, and writes one at the end."""

    def __init__(self, letters, states, registers, firsts, steps, ends):
        part = first_wrong(letters, states, registers, firsts, steps, ends)
        if part is not None:
            raise BadProgram(part)
        self._put(letters, states, registers, firsts, steps, ends)

    def _put(self, letters, states, registers, firsts, steps, ends):
        """Takes copies of the parts, in the one form in which equal programs have equal parts."""
        self.letters = "".join(sorted(letters))
        self.states = states
        self.registers = sorted(registers)
        self.firsts = {name: firsts.get(name, "") for name in self.registers}
        self.steps = {key: (steps[key][0], all_rows(steps[key][1], self.registers)) for key in sorted(steps)}
        self.ends = {state: row_of(ends[state]) for state in sorted(ends)}

    def __eq__(self, other):
        return (isinstance(other, Program) and self.letters == other.letters and self.states == other.states
                and self.registers == other.registers and self.firsts == other.firsts
                and self.steps == other.steps and self.ends == other.ends)

    def __call__(self, text):
        """What is written for a text, None if it is refused."""
        state, held = self.after(text)
        if state not in self.ends:
            return None
        return text_of(self.ends[state], held)

    def after(self, text):
        """The state behind a text, and the dict of what the registers hold there."""
        check_word(self.letters, text)
        state = 0
        held = dict(self.firsts)
        for letter in text:
            state, rows = self.steps[(state, letter)]
            held = {name: text_of(rows[name], held) for name in rows}
        return state, held

    def reached(self):
        """The ascending list of the states that texts lead to."""
        return sorted(first_texts(self.letters, self.steps))


def all_rows(rows, registers):
    """The dict of the rows of all registers: those that are not told keep what they hold."""
    return {name: row_of(rows[name]) if name in rows else ((name,),) for name in registers}


def made(letters, states, registers, firsts, steps, ends):
    """The program of parts that are known to be as told, but for their numbers, which may be beyond the limits."""
    program = Program("a", 1, [], {}, {(0, "a"): (0, {})}, {})
    program._put(letters, states, registers, firsts, steps, ends)
    return program


def copied(program):
    """A new program, equal to this one."""
    return made(program.letters, program.states, program.registers, program.firsts, program.steps, program.ends)


def check_program(thing):
    """Refuses what is no program."""
    if not isinstance(thing, Program):
        raise BadProgram(None)
