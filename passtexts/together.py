"""Several programs that read the same text, as one program, and what items a row of it would have."""

from passtexts.errors import TooLarge
from passtexts.parts import MOST_REGISTERS, MOST_STATES
from passtexts.places import Places
from passtexts.programs import made
from passtexts.values import word_of


class Together:
    """Programs and a set (or None) that read the same text, with registers of their own in one program.

    A place is a pair of the tuple of the states of the programs, and the state of the set, 0 without one.
    """

    def __init__(self, programs, texts):
        self.programs = programs
        self.texts = texts
        self.names = []
        many = 0
        for program in programs:
            self.names.append({name: word_of(many + place) for place, name in enumerate(program.registers)})
            many = many + len(program.registers)
        if many > MOST_REGISTERS:
            raise TooLarge("too many registers")

    def behind(self, place, letter):
        """The place behind one more letter."""
        states, state = place
        following = [program.steps[(told, letter)][0] for program, told in zip(self.programs, states)]
        return tuple(following), 0 if self.texts is None else self.texts.steps[state][letter]

    def renamed(self, number, row):
        """The row of a program with its registers in the one program."""
        return tuple([item if isinstance(item, str) else (self.names[number][item[0]],) for item in row])

    def rows_at(self, place, letter):
        """The rows of all registers in the step from a place with a letter."""
        rows = {}
        for number, program in enumerate(self.programs):
            told = program.steps[(place[0][number], letter)][1]
            for name in told:
                rows[self.names[number][name]] = self.renamed(number, told[name])
        return rows

    def out(self, place, number):
        """The row at the end of a program at a place, None without one."""
        row = self.programs[number].ends.get(place[0][number])
        return None if row is None else self.renamed(number, row)

    def has(self, place):
        """Whether the text that leads to a place is in the set."""
        return place[1] in self.texts.ends

    def as_one(self, ended):
        """The program of these, with the ends that a function tells for places, None for no end."""
        letters = self.programs[0].letters
        first = (tuple([0 for _ in self.programs]), 0)
        places = Places(first, letters, lambda place, letter: self.behind(place, letter), MOST_STATES)
        steps = {}
        for number, place in enumerate(places.told):
            for letter, following in zip(letters, places.moves[number]):
                steps[(number, letter)] = (following, self.rows_at(place, letter))
        rows = [ended(place) for place in places.told]
        ends = {number: row for number, row in enumerate(rows) if row is not None}
        firsts = {}
        registers = []
        for program, names in zip(self.programs, self.names):
            firsts.update({names[name]: program.firsts[name] for name in names})
            registers.extend(list(names.values()))
        return made(letters, len(places.told), registers, firsts, steps, ends)


def items_behind_word(program, state, word):
    """The greatest number of items of a row behind a word, read from a state, without putting it together."""
    counts = {name: (1, False, False) for name in program.registers}
    for letter in word:
        state, rows = program.steps[(state, letter)]
        counts = {name: count_of(rows[name], counts) for name in program.registers}
    return max([counts[name][0] for name in counts], default=0)


def count_of(row, counts):
    """How many items a row has with rows in the places of registers, and whether it begins, and ends, with a text."""
    items, begins, ends = 0, False, False
    for item in row:
        many, first, last = (1, True, True) if isinstance(item, str) else counts[item[0]]
        if many > 0:
            begins = first if items == 0 else begins
            # texts side by side are one text
            items = items + many - (1 if ends and first else 0)
            ends = last
    return items, begins, ends
