"""The texts of programs: reading and writing them."""

from passtexts.errors import BadText
from passtexts.parts import MOST_REGISTERS, are_letters
from passtexts.programs import Program, check_program
from passtexts.spelling import QUOTE, end_of_word, number_told, quoted, written_items
from passtexts.values import is_word


def read_program(text):
    """The program of a text."""
    if not isinstance(text, str):
        raise BadText(0, 0)
    lines = text.split("\n")
    told = Told()
    for number, line in enumerate(lines):
        pieces = Line(number + 1, line)
        if pieces.ahead() != "":
            told.read(pieces)
    if not told.is_whole():
        raise BadText(len(lines), len(lines[-1]) + 1)
    return Program(told.letters, told.states, list(told.registers), told.firsts, told.steps, told.ends)


def write_program(program):
    """The text of a program."""
    check_program(program)
    lines = ["letters " + program.letters]
    if program.registers:
        lines.append(" ".join(["registers"] + program.registers))
    for name in program.registers:
        if program.firsts[name]:
            lines.append(f"first {name} {quoted(program.firsts[name])}")
    for state, letter in sorted(program.steps):
        lines.append(written_step(program, state, letter))
    for state in sorted(program.ends):
        lines.append(f"end {state}:" + written_items(program.ends[state]))
    return "".join([line + "\n" for line in lines])


def written_step(program, state, letter):
    """The line of a step, with the rows of those registers alone that do not keep what they hold."""
    following, rows = program.steps[(state, letter)]
    told = [f"{name} =" + written_items(rows[name]) for name in program.registers if rows[name] != ((name,),)]
    return f"{state} {letter} {following}" + (": " if told else "") + "; ".join(told)


class Line:
    """The pieces of a line, one behind the other: words and numbers, signs, and the quotes ahead of texts."""

    def __init__(self, number, line):
        self.number = number
        self.told = line.partition("#")[0]
        self.place = 0
        self.skip()

    def skip(self):
        """Goes on to what is no blank."""
        while self.place < len(self.told) and self.told[self.place] == " ":
            self.place = self.place + 1

    def ahead(self):
        """The next piece, the empty text at the end of the line."""
        end = end_of_word(self.told, self.place)
        return self.told[self.place:max(end, self.place + 1)]

    def pass_by(self):
        """Goes behind the next piece."""
        self.place = self.place + len(self.ahead())
        self.skip()

    def refuse(self):
        """Refuses the next piece."""
        raise BadText(self.number, self.place + 1)

    def expect(self, piece):
        """Goes behind the next piece, if it is this one, and refuses it otherwise."""
        if self.ahead() != piece:
            self.refuse()
        self.pass_by()

    def quotes(self):
        """Goes behind a text in quotes, and returns it."""
        if self.ahead() != QUOTE:
            self.refuse()
        begin = self.place + 1
        self.place = end_of_word(self.told, begin)
        text = self.told[begin:self.place]
        self.expect(QUOTE)
        return text


class Told:
    """What the lines of a text have told of a program so far."""

    def __init__(self):
        self.lines = 0
        self.letters = ""
        self.states = 1
        self.registers = {}
        self.firsts = {}
        self.steps = {}
        self.ends = {}

    def is_whole(self):
        """Whether no lines are missing."""
        return self.lines > 0 and len(self.steps) == self.states * len(self.letters)

    def read(self, line):
        """Takes what a line tells."""
        word = line.ahead()
        if self.lines == 0:
            self.read_letters(line)
        elif self.lines == 1 and word == "registers":
            self.read_registers(line)
        elif word == "first":
            self.read_first(line)
        elif word == "end":
            self.read_end(line)
        else:
            self.read_step(line)
        if line.ahead() != "":
            line.refuse()
        self.lines = self.lines + 1

    def read_letters(self, line):
        """Takes the letters."""
        line.expect("letters")
        self.letters = line.ahead()
        if not are_letters(self.letters):
            line.refuse()
        line.pass_by()

    def read_registers(self, line):
        """Takes the registers, at least one."""
        line.expect("registers")
        while not self.registers or line.ahead() != "":
            name = line.ahead()
            if not is_word(name) or name in self.registers or len(self.registers) == MOST_REGISTERS:
                line.refuse()
            self.registers[name] = True
            line.pass_by()

    def read_first(self, line):
        """Takes a first content."""
        line.expect("first")
        name = self.read_name(line, self.firsts)
        self.firsts[name] = line.quotes()

    def read_step(self, line):
        """Takes a step."""
        state = self.read_state(line, {})
        letter = line.ahead()
        if len(letter) != 1 or letter not in self.letters or (state, letter) in self.steps:
            line.refuse()
        line.pass_by()
        following = self.read_state(line, {})
        rows = {}
        sign = ":"
        while line.ahead() == sign:
            line.pass_by()
            name = self.read_name(line, rows)
            line.expect("=")
            rows[name] = self.read_items(line)
            sign = ";"
        self.steps[(state, letter)] = (following, rows)

    def read_end(self, line):
        """Takes an end."""
        line.expect("end")
        state = self.read_state(line, self.ends)
        line.expect(":")
        self.ends[state] = self.read_items(line)

    def read_name(self, line, barred):
        """Takes a register that is none of these."""
        name = line.ahead()
        if name not in self.registers or name in barred:
            line.refuse()
        line.pass_by()
        return name

    def read_state(self, line, barred):
        """Takes a state that is none of these."""
        state = number_told(line.ahead())
        if state is None or state in barred:
            line.refuse()
        line.pass_by()
        self.states = max(self.states, state + 1)
        return state

    def read_items(self, line):
        """Takes the items of a row."""
        items = []
        while line.ahead() == QUOTE or line.ahead() in self.registers:
            if line.ahead() == QUOTE:
                items.append(line.quotes())
            else:
                items.append((line.ahead(),))
                line.pass_by()
        return tuple(items)
