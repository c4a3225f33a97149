"""Runs: a program reads on, goes back, and tries."""

from passtexts.errors import BadNumber, BadWord, NothingDone
from passtexts.programs import check_program, copied
from passtexts.values import check_word, is_number


class Run:
    """Reads on with a program, letter by letter."""

    MOST = 1000

    def __init__(self, program):
        check_program(program)
        self.program = copied(program)
        self.state = 0
        self.letters_read = ""
        self.states_passed = [0]

    def read(self, text):
        """Reads all letters of a text, or none, if it is refused."""
        check_word(self.program.letters, text)
        if len(self.letters_read) + len(text) > Run.MOST:
            raise BadWord(Run.MOST - len(self.letters_read))
        passed = list(self.states_passed)
        for letter in text:
            passed.append(self.program.steps[(passed[-1], letter)][0])
        self.letters_read = self.letters_read + text
        self.states_passed = passed
        self.state = passed[-1]
        return self

    def back(self, many=1):
        """Goes back by so many letters."""
        if not is_number(many) or many < 0:
            raise BadNumber("not a number of letters")
        left = len(self.letters_read) - many
        if left < 0:
            raise NothingDone("not so many letters were read")
        self.letters_read = self.letters_read[:left]
        self.states_passed = self.states_passed[:left + 1]
        self.state = self.states_passed[-1]
        return self

    def text(self):
        """What was read."""
        return self.letters_read

    def contents(self):
        """The dict of what the registers hold."""
        return self.program.after(self.letters_read)[1]

    def written(self):
        """What is written, if the text ends here, None if it is refused."""
        return self.program(self.letters_read)

    def trial(self):
        """What works on this run, in a with, so that all is as it was when it began, if an error ends it."""
        return Trial(self)

    def attempt(self, work):
        """What a function returns for this run, in a trial."""
        with self.trial() as same:
            return work(same)

    def __len__(self):
        return len(self.letters_read)


class Trial:
    """Puts a run back to where it was, if an error ends the trial."""

    def __init__(self, run):
        self.run = run
        self.saved = None

    def __enter__(self):
        self.saved = Saved(self.run, self.saved)
        return self.run

    def __exit__(self, kind, value, trace):
        run = self.run
        if kind is not None:
            run.program = self.saved.program
            run.state = self.saved.state
            run.letters_read = self.saved.letters_read
            run.states_passed = self.saved.states_passed
        self.saved = self.saved.outer


class Saved:
    """Where a run was when a trial began, and the same for the one around it, of the same object."""

    def __init__(self, run, outer):
        self.program = run.program
        self.state = run.state
        self.letters_read = run.letters_read
        self.states_passed = run.states_passed
        self.outer = outer
