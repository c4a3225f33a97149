"""The pieces of the text of a script: words, numbers, texts in quotes and signs, with their lines and columns."""

from passtexts.errors import BadText
from passtexts.spelling import QUOTE, end_of_word

PAIRS = ("!=", "<=", ">=")


class ScriptPieces:
    """The pieces of a text, one behind the other, the empty text at its end."""

    def __init__(self, text):
        lines = text.split("\n")
        self.told = []
        for number, line in enumerate(lines):
            self.told.extend(pieces_of(line.partition("#")[0], number + 1))
        self.told.append(("", len(lines), len(lines[-1]) + 1))
        self.place = 0

    def ahead(self):
        """The next piece."""
        return self.told[self.place][0]

    def pass_by(self):
        """Goes behind the next piece."""
        self.place = self.place + 1

    def refuse(self):
        """Refuses the next piece."""
        _, line, column = self.told[self.place]
        raise BadText(line, column)

    def expect(self, piece):
        """Goes behind the next piece, if it is this one, and refuses it otherwise."""
        if self.ahead() != piece:
            self.refuse()
        self.pass_by()


def pieces_of(line, number):
    """The list of the pieces of a line, each with the number of the line and its column."""
    found = []
    place = 0
    while place < len(line):
        piece = piece_at(line, place)
        if piece != " ":
            found.append((piece, number, place + 1))
        place = place + len(piece)
    return found


def piece_at(line, place):
    """The piece that begins at a place of a line, or the sign there, if it begins none."""
    end = end_of_word(line, place)
    if end > place:
        return line[place:end]
    if line[place] == QUOTE:
        end = end_of_word(line, place + 1)
        # quotes that are not closed, or hold another sign, are left alone: no such piece can stand anywhere
        return line[place:end + 1] if line[end:end + 1] == QUOTE else QUOTE
    pair = line[place:place + 2]
    return pair if pair in PAIRS else line[place]


def is_quoted(piece):
    """Whether a piece is a text in quotes."""
    return piece.startswith(QUOTE) and piece != QUOTE
