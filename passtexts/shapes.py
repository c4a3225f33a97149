"""What a program does with a text that another program's register holds, as far as it is known ahead of the text.

A shape, for a register of the first program and a state of the second one, is a pair of the next state and the tuple,
for each register of the second one, of the registers that come into its row. The texts ahead of these registers,
between and behind them, the pieces, are held by registers of the program that is made of both: one for the piece that
comes first in a row, and one for the piece behind each register, which stands in one row at most.
"""

from passtexts.rows import filled, row_of
from passtexts.values import word_of


class Shapes:
    """Makes rows and shapes for two programs."""

    def __init__(self, one, other):
        self.one = one
        self.other = other
        self.numbers = {name: number for number, name in enumerate(one.registers)}
        # the registers for the piece that comes first in the row of a told register, and for the one behind it
        self.pieces = {}
        for name in one.registers:
            for state in range(other.states):
                for told in other.registers:
                    place = len(self.pieces) * 2
                    self.pieces[(name, state, told)] = (word_of(place), word_of(place + 1))

    def nothing_read(self):
        """The rows of the second program's registers as long as nothing is read.

        In these rows a text is a text, a tuple of one a piece, and a pair what a register of the second one held.
        """
        return {told: ((told, True),) for told in self.other.registers}

    def through(self, state, items, shapes):
        """The state of the second program, and the rows of its registers, behind what the items of a row hold."""
        rows = self.nothing_read()
        for item in items:
            if isinstance(item, str):
                state, rows = self.through_text(state, rows, item)
            else:
                state, rows = self.through_piece(state, rows, item[0], shapes)
        return state, rows

    def through_text(self, state, rows, text):
        """The state and the rows behind the signs of a text."""
        for sign in text:
            state, moves = self.other.steps[(state, sign)]
            rows = {told: filled(moves[told], rows) for told in self.other.registers}
        return state, rows

    def through_piece(self, state, rows, name, shapes):
        """The state and the rows behind what a register of the first program holds."""
        following, orders = shapes[self.numbers[name]][state]
        found = {}
        for told, order in zip(self.other.registers, orders):
            items = [(self.pieces[(name, state, told)][0],)]
            for held in order:
                items.extend(rows[held])
                items.append((self.pieces[(name, state, held)][1],))
            found[told] = items
        return following, found

    def parted(self, name, state, rows):
        """The orders of registers in these rows, and the rows of the pieces between them."""
        orders = []
        pieces = {}
        for told in self.other.registers:
            order = []
            place = self.pieces[(name, state, told)][0]
            pieces[place] = []
            for item in rows[told]:
                if is_pair(item):
                    order.append(item[0])
                    place = self.pieces[(name, state, item[0])][1]
                    pieces[place] = []
                else:
                    pieces[place].append(item)
            orders.append(tuple(order))
        return tuple(orders), {place: row_of(pieces[place]) for place in pieces}

    def all_parted(self, rows, shapes):
        """The shapes behind the rows of the first program's registers, and the rows of all pieces."""
        found = []
        pieces = {}
        for name in self.one.registers:
            by_state = []
            for state in range(self.other.states):
                following, behind = self.through(state, rows[name], shapes)
                orders, told = self.parted(name, state, behind)
                by_state.append((following, orders))
                pieces.update(told)
            found.append(tuple(by_state))
        return tuple(found), pieces

    def ended(self, row, shapes):
        """The row that the second program writes for a row at the end of the first one, None if it refuses it."""
        state, rows = self.through(0, row, shapes)
        if state not in self.other.ends:
            return None
        items = filled(self.other.ends[state], rows)
        return row_of([self.other.firsts[item[0]] if is_pair(item) else item for item in items])


def is_pair(item):
    """Whether an item of rows stands for what a register of the second program held."""
    return isinstance(item, tuple) and len(item) == 2
