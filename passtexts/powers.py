"""What a plain program writes for a text with a word so many times in it, without writing it out."""

from passtexts.errors import BadNumber, NotPlain
from passtexts.pieces import Pieces
from passtexts.programs import check_program
from passtexts.rows import filled, text_of
from passtexts.thrifty import is_plain
from passtexts.values import check_word, is_number
from passtexts.words import behind_word

MOST_TIMES = 1000000000000
MOST_SIGNS = 1000


class Written:
    """A text that is written, told by pieces, of which the one with a number is the whole."""

    def __init__(self, pieces, number):
        self.told = list(pieces.told)
        self.sizes = list(pieces.sizes)
        self.number = number

    def __eq__(self, other):
        return isinstance(other, Written) and self.told == other.told and self.number == other.number

    def size(self):
        """How many signs it has."""
        return self.sizes[self.number]

    def sign(self, place):
        """The sign at a place."""
        if not is_number(place) or not 0 <= place < self.size():
            raise BadNumber("no place of the text")
        return self.part(place, place + 1)

    def part(self, first, last):
        """The text from a place to ahead of another one."""
        if not is_number(first) or not is_number(last) or not 0 <= first <= last <= self.size():
            raise BadNumber("no two places of the text")
        if last - first > MOST_SIGNS:
            raise BadNumber("too many signs")
        found = []
        waiting = [(self.number, 0)]
        while waiting:
            number, start = waiting.pop()
            if start < last and start + self.sizes[number] > first:
                piece = self.told[number]
                if isinstance(piece, str):
                    found.append(piece[max(0, first - start):last - start])
                else:
                    waiting.append((piece[1], start + self.sizes[piece[0]]))
                    waiting.append((piece[0], start))
        return "".join(found)


def written_for(program, ahead, word, many, behind):
    """What is written for a text, a word so many times, and a text behind, None if it is refused."""
    check_program(program)
    if not is_plain(program):
        raise NotPlain("a register stands twice")
    for text in (ahead, word, behind):
        check_word(program.letters, text)
    if not is_number(many) or not 0 <= many <= MOST_TIMES:
        raise BadNumber("not a number of times")
    state, held = program.after(ahead)
    rounds = Rounds(program, word, state, many)
    end, last = behind_word(program, rounds.last_state(), behind, program.registers)
    if end not in program.ends:
        return None
    row = filled(program.ends[end], through(rounds.moves_behind() + [last], program.registers))
    for rows in rounds.moves_ahead():
        held = {name: text_of(rows[name], held) for name in rows}
    return put_together(row, held, through(rounds.moves_of_ring(), program.registers), rounds.turns)


class Rounds:
    """The states that a word leads through, read so many times: some, a ring of others so many turns, and a rest.

    moves has for these states, as far as they are met for the first time, the rows behind the word.
    """

    def __init__(self, program, word, state, many):
        self.states = [state]
        self.moves = []
        met = {}
        while len(self.moves) < many and self.states[-1] not in met:
            met[self.states[-1]] = len(self.moves)
            following, rows = behind_word(program, self.states[-1], word, program.registers)
            self.states.append(following)
            self.moves.append(rows)
        # without a ring the rest is empty, and all is ahead of it
        self.start = met.get(self.states[-1], len(self.moves))
        ring = len(self.moves) - self.start
        self.turns, self.rest = divmod(many - self.start, ring) if ring > 0 else (0, 0)

    def last_state(self):
        """The state behind all words."""
        return self.states[self.start + self.rest]

    def moves_ahead(self):
        """The rows of the words ahead of the ring."""
        return self.moves[:self.start]

    def moves_of_ring(self):
        """The rows of the words of a turn."""
        return self.moves[self.start:]

    def moves_behind(self):
        """The rows of the words behind the last turn."""
        return self.moves[self.start:self.start + self.rest]


def through(moves, names):
    """The rows of these registers behind moves, one behind the other."""
    found = {name: ((name,),) for name in names}
    for rows in moves:
        found = {name: filled(rows[name], found) for name in names}
    return found


def put_together(row, held, ring, turns):
    """The text of a row, for what registers hold behind so many turns of a ring, for what they held ahead of it."""
    pieces = Pieces()
    numbers = {name: pieces.text(held[name]) for name in held}
    rows = {name: pieces.row_of(ring[name]) for name in ring}
    while turns > 0:
        if turns % 2 == 1:
            numbers = pieces.held_behind(rows, numbers)
        turns = turns // 2
        if turns > 0:
            rows = pieces.twice(rows)
    parts = [numbers[item[0]] if isinstance(item, tuple) else item for item in pieces.row_of(row)]
    return Written(pieces, pieces.joined(parts))
