"""Places that letters lead to, in the order in which they come first by texts, and which of them are of one kind."""

from passtexts.errors import TooLarge


class Places:
    """The places to which texts lead from a first one, numbered in the list told, with the first text of each.

    moves is the list, by number, of the lists of the numbers of the places behind each letter.
    """

    def __init__(self, first, letters, behind, most):
        self.told = [first]
        self.numbers = {first: 0}
        self.texts = [""]
        self.moves = []
        while len(self.moves) < len(self.told):
            at = len(self.moves)
            moves = []
            for letter in letters:
                moves.append(self.number_of(behind(self.told[at], letter), self.texts[at] + letter))
            self.moves.append(moves)
            if most is not None and len(self.told) > most:
                raise TooLarge("too many places")

    def number_of(self, place, text):
        """The number of a place to which a text leads."""
        if place not in self.numbers:
            self.numbers[place] = len(self.told)
            self.told.append(place)
            self.texts.append(text)
        return self.numbers[place]


def kinds_of(moves, ends, most):
    """The list of the numbers of the kinds of places, by their order: those of one kind go on with the same texts.

    TooLarge, if there are more than so many.
    """
    kinds = [1 if ended else 0 for ended in ends]
    many = len(set(kinds))
    while True:
        numbers = {}
        found = []
        for kind, told in zip(kinds, moves):
            key = (kind, tuple([kinds[place] for place in told]))
            found.append(numbers.setdefault(key, len(numbers)))
        # kinds are parted more and more, so too many of them stay too many
        if len(numbers) > most:
            raise TooLarge("too many states of a least set")
        if len(numbers) == many:
            return found
        kinds = found
        many = len(numbers)
