"""The errors that the package raises."""


class PassError(ValueError):
    """What all errors of the package are."""


class BadProgram(PassError):
    """What is no program: `part` names the part that is not as told, None stands for the whole."""

    def __init__(self, part):
        super().__init__(f"no program: {part}")
        self.part = part


class BadSet(PassError):
    """What is no set of texts: `part` names the part that is not as told, None stands for the whole."""

    def __init__(self, part):
        super().__init__(f"no set of texts: {part}")
        self.part = part


class BadWord(PassError):
    """A text that cannot be read from `place` on, None if it is no string."""

    def __init__(self, place):
        super().__init__(f"cannot be read: {place}")
        self.place = place


class BadText(PassError):
    """A text of a program or a script that is wrong at `line` and `column`."""

    def __init__(self, line, column):
        super().__init__(f"line {line}, column {column}")
        self.line = line
        self.column = column


class BadNumber(PassError):
    """A number that is none of those that are told."""


class BadName(PassError):
    """A `name` that is none of those that are told."""

    def __init__(self, name):
        super().__init__("no such name")
        self.name = name


class NotThrifty(PassError):
    """A program that is not thrifty."""


class NotPlain(PassError):
    """A program that is not plain."""


class Unlike(PassError):
    """Things that do not fit together: `what` tells in what."""

    def __init__(self, what):
        super().__init__(f"not alike: {what}")
        self.what = what


class TooLarge(PassError):
    """What goes beyond the limits that are told."""


class NothingDone(PassError):
    """Nothing that could be taken back."""


class BadPipe(PassError):
    """What is no pipe: `number` is that of the stage that is not as told, None stands for the whole."""

    def __init__(self, number):
        super().__init__(f"no pipe: {number}")
        self.number = number
