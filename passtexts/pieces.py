"""Very long texts, put together of pieces that stand there many times."""


class Pieces:
    """Texts, and pairs of the numbers of two of them that stand one behind the other, with the sizes of all."""

    def __init__(self):
        self.told = []
        self.sizes = []

    def text(self, text):
        """The number of a text."""
        self.told.append(text)
        self.sizes.append(len(text))
        return len(self.told) - 1

    def joined(self, numbers):
        """The number of these, one behind the other."""
        whole = None
        for number in numbers:
            if whole is None or self.sizes[whole] == 0:
                whole = number
            elif self.sizes[number] > 0:
                self.told.append((whole, number))
                self.sizes.append(self.sizes[whole] + self.sizes[number])
                whole = len(self.told) - 1
        return self.text("") if whole is None else whole

    def row_of(self, row):
        """The row with numbers for its texts."""
        return [self.text(item) if isinstance(item, str) else item for item in row]

    def held_behind(self, rows, held):
        """The dict of what registers hold behind rows with numbers, for what they held ahead."""
        return {name: self.joined([held[item[0]] if is_held(item) else item for item in rows[name]]) for name in rows}

    def twice(self, rows):
        """The rows with numbers that do twice what these do."""
        return {name: self.within(rows[name], rows) for name in rows}

    def within(self, row, rows):
        """The row with the rows of registers in the places of these, and one number for several side by side."""
        found = []
        numbers = []
        for item in row:
            for part in rows[item[0]] if is_held(item) else [item]:
                if is_held(part):
                    found.extend([self.joined(numbers)] if numbers else [])
                    numbers = []
                    found.append(part)
                else:
                    numbers.append(part)
        found.extend([self.joined(numbers)] if numbers else [])
        return found


def is_held(item):
    """Whether an item of a row with numbers is a tuple of one register."""
    return isinstance(item, tuple)
