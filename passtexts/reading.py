"""The first text for which two thrifty programs write unlike things, text by text."""

from passtexts.living import useful_registers


class Reader:
    """Reads with those registers of a thrifty program alone that are live for some rest of a text.

    A place is a pair of a state and the tuple of what these registers hold there. Others may grow beyond all bounds.
    """

    def __init__(self, program):
        self.program = program
        self.useful = useful_registers(program)
        self.moves = {}
        self.outs = {state: self.placed(state, program.ends[state]) for state in program.ends if state in self.useful}

    def size(self):
        """The number of states, and of the registers that are read with at each of them."""
        return sum([len(self.useful[state]) + 1 for state in self.useful])

    def placed(self, state, row):
        """The row, with the places of registers among the useful ones of a state."""
        useful = self.useful[state]
        return [item if isinstance(item, str) else useful.index(item[0]) for item in row]

    def start(self):
        """The place of the empty text."""
        return 0, tuple([self.program.firsts[name] for name in self.useful[0]])

    def move(self, state, letter):
        """The next state, and the rows of its useful registers."""
        key = (state, letter)
        if key not in self.moves:
            following, rows = self.program.steps[key]
            self.moves[key] = (following, [self.placed(state, rows[name]) for name in self.useful[following]])
        return self.moves[key]

    def behind(self, place, letter, at):
        """The place behind one more letter, the one at this place of the text."""
        following, rows = self.move(place[0], letter)
        return following, tuple([put_together(row, place[1]) for row in rows])

    def out(self, place, at):
        """What is written, if the text ends here, None if it is refused."""
        if place[0] not in self.outs:
            return None
        return put_together(self.outs[place[0]], place[1])


class OriginReader(Reader):
    """Reads likewise, where registers hold tuples of pairs of a sign and the place of the letter that put it in."""

    def start(self):
        """The place of the empty text."""
        return 0, tuple([put_in([self.program.firsts[name]], (), -1) for name in self.useful[0]])

    def behind(self, place, letter, at):
        """The place behind one more letter, the one at this place of the text."""
        following, rows = self.move(place[0], letter)
        return following, tuple([put_in(row, place[1], at) for row in rows])

    def out(self, place, at):
        """The pairs of what is written, if the text ends here, None if it is refused."""
        if place[0] not in self.outs:
            return None
        return put_in(self.outs[place[0]], place[1], at)


def put_together(row, held):
    """The text of a row with places of registers."""
    return "".join([item if isinstance(item, str) else held[item] for item in row])


def put_in(row, held, at):
    """The pairs of a row with places of registers, whose own signs are put in at a place."""
    pairs = []
    for item in row:
        if isinstance(item, str):
            pairs.extend([(sign, at) for sign in item])
        else:
            pairs.extend(held[item])
    return tuple(pairs)


def unlike(written, other_written):
    """Whether unlike things are written."""
    return written != other_written


def first_apart(first, second, many, apart):
    """The first text, shorter ones first, then in order, for which what two readers write is apart, as told.

    None, if there is none, or none is found among the first ones, about so many (all, if many is None). Texts behind
    which both are where they were behind an earlier text lead to nothing new and are left out.
    """
    start = (first.start(), second.start())
    if apart(first.out(start[0], 0), second.out(start[1], 0)):
        return ""
    seen = {start: True}
    level = [("", start)]
    at = 0
    while level and (many is None or len(seen) < many):
        following = []
        for text, (here, there) in level:
            for letter in first.program.letters:
                places = (first.behind(here, letter, at), second.behind(there, letter, at))
                if places not in seen:
                    if apart(first.out(places[0], at + 1), second.out(places[1], at + 1)):
                        return text + letter
                    seen[places] = True
                    following.append((text + letter, places))
        level = following
        at = at + 1
    return None
