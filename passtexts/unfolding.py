"""All that a script can come to: the values of its counters, and what is done for them with each letter."""

from passtexts.doing import Rulebook
from passtexts.errors import TooLarge
from passtexts.parts import MOST_STATES
from passtexts.places import Places
from passtexts.rows import filled

MOST_ITEMS = 400


class Unfolding:
    """Follows a script from its first values of counters on, with all letters.

    A place is the tuple of the values of the counters, ascending by their names, None where it is stopped; places are
    those that texts lead to. greatest is the dict of the greatest values that the counters have, also within a rule.
    """

    def __init__(self, script):
        self.letters = script.letters
        self.texts = list(script.texts)
        self.rulebook = Rulebook(script)
        self.greatest = self.rulebook.begun()
        # by pairs of a place and a letter: the number of the rule that is done, and the rows of the texts
        self.rules = {}
        self.rows = {}
        # the rows of the texts that are found already, by what they take one behind the other
        self.found = {}
        self.places = self.all_places()

    def all_places(self):
        """The places that texts lead to, in the order in which they come first."""
        first = tuple(self.greatest.values())
        return Places(first, self.letters, lambda place, letter: self.behind(place, letter), MOST_STATES)

    def counters_at(self, place):
        """The dict of the values of counters at a place, None where it is stopped."""
        return None if place is None else {name: value for name, value in zip(self.greatest, place)}

    def behind(self, place, letter):
        """The place behind one more letter; what is done with it is kept."""
        key = (place, letter)
        if place is None:
            self.rows[key] = no_rows(self.texts)
            return None
        values = self.counters_at(place)
        number = self.rulebook.rule_for(letter, values)
        if number is None:
            self.rows[key] = rows_taken((), self.texts)
            return place
        doing = self.rulebook.done(number, values)
        rows = self.rows_behind(tuple(doing.rows))
        self.rules[key] = number
        self.rows[key] = no_rows(self.texts) if doing.stopped else rows
        self.greatest = {name: max(self.greatest[name], doing.greatest[name]) for name in self.greatest}
        return None if doing.stopped else tuple(doing.counters.values())

    def rows_behind(self, taken):
        """The rows of all texts behind what they take one behind the other."""
        if taken not in self.found:
            self.found[taken] = rows_taken(taken, self.texts)
        return self.found[taken]

    def end_at(self, place):
        """The number of the end that counts at a place, None without one."""
        return None if place is None else self.rulebook.end_for(self.counters_at(place))

    def row_at(self, place):
        """The row that is written at a place, None if the text is refused."""
        return None if place is None else self.rulebook.row_for(self.counters_at(place))


def no_rows(texts):
    """The empty rows of texts."""
    return {name: () for name in texts}


def rows_taken(taken, texts):
    """The rows of texts behind pairs of a text and the row that it takes, done one behind the other."""
    rows = {name: ((name,),) for name in texts}
    for name, row in taken:
        many = sum([1 if isinstance(item, str) else len(rows[item[0]]) for item in row])
        # what is taken may grow beyond all bounds, also where it is not kept
        if many > MOST_ITEMS:
            raise TooLarge("too many texts and registers in a row")
        rows[name] = filled(row, rows)
    return rows
