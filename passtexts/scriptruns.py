"""What scripts do with texts, letter by letter."""

from passtexts.doing import Rulebook
from passtexts.errors import BadNumber, BadWord, NothingDone
from passtexts.rows import text_of
from passtexts.scripts import check_script
from passtexts.values import check_word, is_number


class Standing:
    """Where a script is behind a text: values of counters, what texts hold, and whether it is stopped."""

    def __init__(self, counters, texts, stopped):
        self.counters = counters
        self.texts = texts
        self.stopped = stopped


class Stepper:
    """Reads on with a script, letter by letter."""

    MOST = 1000

    def __init__(self, script):
        check_script(script)
        self.letters = script.letters
        self.rulebook = Rulebook(script)
        self.letters_read = ""
        # those done for the letters, and where it was ahead of the first one and behind each
        self.rules_done = []
        self.standings = [begun(script, self.rulebook)]

    def read(self, text):
        """Reads all letters of a text, or none, if it is refused."""
        check_word(self.letters, text)
        if len(self.letters_read) + len(text) > Stepper.MOST:
            raise BadWord(Stepper.MOST - len(self.letters_read))
        for letter in text:
            number, standing = behind(self.rulebook, self.standings[-1], letter)
            self.rules_done.append(number)
            self.standings.append(standing)
        self.letters_read = self.letters_read + text
        return self

    def back(self, many=1):
        """Goes back by so many letters."""
        if not is_number(many) or many < 0:
            raise BadNumber("not a number of letters")
        left = len(self.letters_read) - many
        if left < 0:
            raise NothingDone("not so many letters were read")
        self.letters_read = self.letters_read[:left]
        self.rules_done = self.rules_done[:left]
        self.standings = self.standings[:left + 1]
        return self

    def text(self):
        """What was read."""
        return self.letters_read

    def rules(self):
        """The list of the numbers of the rules that were done for the letters, None where none was."""
        return list(self.rules_done)

    def counters(self):
        """The dict of the values of counters."""
        return dict(self.standings[-1].counters)

    def contents(self):
        """The dict of what the texts hold."""
        return dict(self.standings[-1].texts)

    def written(self):
        """What is written, if the text ends here, None if it is refused."""
        return written_at(self.rulebook, self.standings[-1])

    def __len__(self):
        return len(self.letters_read)


def run_script(script, text):
    """What a script writes for a text, None if it refuses it."""
    check_script(script)
    check_word(script.letters, text)
    rulebook = Rulebook(script)
    standing = begun(script, rulebook)
    for letter in text:
        _, standing = behind(rulebook, standing, letter)
    return written_at(rulebook, standing)


def begun(script, rulebook):
    """Where a script is at first."""
    return Standing(rulebook.begun(), dict(script.texts), False)


def behind(rulebook, standing, letter):
    """The number of the rule that is done with a letter, None without one, and where the script is behind it."""
    number = None if standing.stopped else rulebook.rule_for(letter, standing.counters)
    if number is None:
        return None, standing
    doing = rulebook.done(number, standing.counters)
    texts = dict(standing.texts)
    for name, row in doing.rows:
        texts[name] = text_of(row, texts)
    return number, Standing(doing.counters, texts, doing.stopped)


def written_at(rulebook, standing):
    """What is written, if the text ends where the script stands, None if it is refused."""
    row = None if standing.stopped else rulebook.row_for(standing.counters)
    return None if row is None else text_of(row, standing.texts)
