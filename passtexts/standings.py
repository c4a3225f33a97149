"""Where a set is led by what the registers of a program hold.

A map is a tuple that tells for each state of the set to which one a text leads it, -1 for all if it has other signs.
"""

from passtexts.values import is_number


class Maps:
    """The maps of a set, numbered."""

    def __init__(self, goal):
        self.goal = goal
        self.told = []
        self.numbers = {}
        self.pairs = {}

    def number_of(self, told):
        """The number of a map."""
        if told not in self.numbers:
            self.numbers[told] = len(self.told)
            self.told.append(told)
        return self.numbers[told]

    def of_text(self, text):
        """The number of the map of a text."""
        states = list(range(len(self.goal.steps)))
        for sign in text:
            if sign not in self.goal.letters:
                return self.number_of(tuple([-1 for _ in states]))
            states = [self.goal.steps[state][sign] for state in states]
        return self.number_of(tuple(states))

    def joined(self, number, following):
        """The number of the map of two texts, one behind the other."""
        key = (number, following)
        if key not in self.pairs:
            ahead, behind = self.told[number], self.told[following]
            self.pairs[key] = self.number_of(tuple([behind[state] if state >= 0 else -1 for state in ahead]))
        return self.pairs[key]


class Standings:
    """Follows the states of a program and the maps of what its registers hold.

    A standing is a pair of a state and the tuple of the numbers of the maps of all registers, ascending.
    """

    def __init__(self, program, goal):
        self.program = program
        self.maps = Maps(goal)
        self.places = {name: place for place, name in enumerate(program.registers)}
        self.rows = {}
        self.outs = {state: self.placed(program.ends[state]) for state in program.ends}

    def placed(self, row):
        """The row as a list of the places of registers, and of -1 less the number of its map for a text."""
        return [-1 - self.maps.of_text(item) if isinstance(item, str) else self.places[item[0]] for item in row]

    def map_of(self, row, held):
        """The number of the map of the text of a row."""
        found = None
        for item in row:
            number = held[item] if item >= 0 else -1 - item
            found = number if found is None else self.maps.joined(found, number)
        return self.maps.of_text("") if found is None else found

    def start(self):
        """The standing of the empty text."""
        return 0, tuple([self.maps.of_text(self.program.firsts[name]) for name in self.program.registers])

    def behind(self, standing, letter):
        """The standing behind one more letter."""
        key = (standing[0], letter)
        if key not in self.rows:
            following, rows = self.program.steps[key]
            self.rows[key] = (following, [self.placed(rows[name]) for name in self.program.registers])
        following, placed = self.rows[key]
        return following, tuple([self.map_of(row, standing[1]) for row in placed])

    def behind_text(self, text):
        """The standing behind a text."""
        standing = self.start()
        for letter in text:
            standing = self.behind(standing, letter)
        return standing

    def fits(self, standing):
        """Whether something is written there, and it is in the set."""
        state, held = standing
        if state not in self.outs:
            return False
        return self.maps.told[self.map_of(self.outs[state], held)][0] in self.maps.goal.ends

    def maps_of(self, standing):
        """The tuple of the maps of a standing."""
        return tuple([self.maps.told[number] for number in standing[1]])

    def standing_of(self, state, maps):
        """The standing of a state and a tuple of maps, None if it is none."""
        if not is_number(state) or not 0 <= state < self.program.states or not isinstance(maps, tuple):
            return None
        if len(maps) != len(self.program.registers) or not all([is_map(told, self.maps.goal) for told in maps]):
            return None
        return state, tuple([self.maps.number_of(told) for told in maps])


def is_map(told, goal):
    """Whether it is a tuple of a state for each state of a set, or of -1 for all of them."""
    many = len(goal.steps)
    if not isinstance(told, tuple) or len(told) != many or not all([is_number(state) for state in told]):
        return False
    return all([state == -1 for state in told]) or all([0 <= state < many for state in told])
