"""What the rules of a script do with its counters, and which rows its texts take by that."""

from passtexts.guards import holds, value_of
from passtexts.statements import IF, ROW, STOP, SUM, without_calls


class Doing:
    """Does statements without calls: counters are set, and what texts take is told by the list rows.

    counters are their values, greatest the greatest ones that they had, and rows are pairs of a text and its row, in
    the order in which they are done. Nothing is done behind a stop.
    """

    def __init__(self, mosts, values):
        self.mosts = mosts
        self.counters = {name: values[name] for name in values}
        self.greatest = {name: values[name] for name in values}
        self.rows = []
        self.stopped = False

    def do_all(self, statements):
        """Does all of these, as far as none stops."""
        for statement in statements:
            if not self.stopped:
                self.do(statement)
        return self

    def do(self, statement):
        """Does a statement."""
        kind = statement[0]
        if kind == ROW:
            self.rows.append((statement[1], statement[2]))
        elif kind == SUM:
            self.set_counter(statement[1], value_of(statement[2], self.counters) + statement[3])
        elif kind == IF:
            self.do_all(statement[2] if holds(statement[1], self.counters) else statement[3])
        elif kind == STOP:
            self.stopped = True

    def set_counter(self, name, number):
        """Sets a counter to a number, but to 0 for less, to its most for more."""
        self.counters[name] = max(0, min(self.mosts[name], number))
        self.greatest[name] = max(self.greatest[name], self.counters[name])


class Rulebook:
    """The rules of a script, without calls, and its ends."""

    def __init__(self, script):
        self.mosts = {name: script.counters[name] for name in script.counters}
        self.rules = rules_without_calls(script)
        self.ends = list(script.ends)

    def begun(self):
        """The values of counters at first."""
        return {name: 0 for name in self.mosts}

    def rule_for(self, letter, values):
        """The number of the rule that is done with a letter, for values of counters, None without one."""
        for number, (letters, guard, _) in enumerate(self.rules):
            if letter in letters and holds(guard, values):
                return number
        return None

    def end_for(self, values):
        """The number of the end that counts for values of counters, None without one."""
        for number, (guard, _) in enumerate(self.ends):
            if holds(guard, values):
                return number
        return None

    def row_for(self, values):
        """The row that is written at the end for values of counters, None if the text is refused."""
        number = self.end_for(values)
        return None if number is None else self.ends[number][1]

    def done(self, number, values):
        """The Doing of a rule, for values of counters."""
        return Doing(self.mosts, values).do_all(self.rules[number][2])


def rules_without_calls(script):
    """The list of the rules with the statements of parts in the places of calls."""
    parts = {name: (own, statements) for name, own, statements in script.parts}
    return [(letters, guard, without_calls(statements, parts, {})) for letters, guard, statements in script.rules]
