"""Scripts: what is done with each letter of a text that is read."""

from passtexts.errors import BadText, PassError
from passtexts.scriptreading import Reading
from passtexts.statements import check_sizes


class BadScript(PassError):
    """What is no script."""


class Script:
    """What a text tells of letters, counters, texts, parts, rules and ends; read_script makes it.

    Parts are triples of a name, the tuple of own names and statements, rules are triples of letters, a guard and
    statements, ends are pairs of a guard and a row, None for none. All of these are tuples, also within.
    """

    def __init__(self, letters, counters, texts, parts, rules, ends):
        self.letters = letters
        self.counters = {name: counters[name] for name in sorted(counters)}
        self.texts = {name: texts[name] for name in sorted(texts)}
        self.parts = tuple(parts)
        self.rules = tuple(rules)
        self.ends = tuple(ends)

    def __eq__(self, other):
        return (isinstance(other, Script) and self.letters == other.letters and self.counters == other.counters
                and self.texts == other.texts and self.parts == other.parts and self.rules == other.rules
                and self.ends == other.ends)

    def __len__(self):
        return len(self.rules)


def read_script(text):
    """The script of a text."""
    if not isinstance(text, str):
        raise BadText(0, 0)
    told = Reading(text).whole()
    check_sizes(told.parts, told.rules)
    return Script(told.letters, told.counters, told.texts, told.parts, told.rules, told.ends)


def check_script(thing):
    """Refuses what is no script."""
    if not isinstance(thing, Script):
        raise BadScript("no script")
