"""Whether two thrifty programs write texts of the same lengths, or the same texts, whatever is read."""

from passtexts.deciding import decided
from passtexts.errors import Unlike
from passtexts.heights import are_heights, heights_of
from passtexts.living import thrifty_text, written_size
from passtexts.marks import GOAL, SOURCE, MarkPairs
from passtexts.programs import check_program, made
from passtexts.reading import Reader, first_apart, unlike
from passtexts.thrifty import check_thrifty
from passtexts.values import is_made_of
from passtexts.walks import comes_to_nothing


class Even:
    """Shows that two programs write for the same texts, and texts of the same lengths."""

    def __init__(self, heights):
        self.heights = {node: heights[node] for node in heights}

    def __bool__(self):
        return True

    def __eq__(self, other):
        return isinstance(other, Even) and self.heights == other.heights

    def shows(self, one, other):
        """Whether these are heights as described."""
        check_both(one, other)
        return are_heights(one, other, self.heights)


class Uneven:
    """Shows that two programs do not, by a text."""

    def __init__(self, text):
        self.text = text

    def __bool__(self):
        return False

    def __eq__(self, other):
        return isinstance(other, Uneven) and self.text == other.text

    def shows(self, one, other):
        """Whether for the text just one of them writes something, or the lengths are unlike."""
        check_both(one, other)
        return is_made_of(self.text, one.letters) and written_size(one, self.text) != written_size(other, self.text)


class Same:
    """Shows that two programs write the same for all texts."""

    def __init__(self, heights):
        self.heights = {node: heights[node] for node in heights}

    def __bool__(self):
        return True

    def __eq__(self, other):
        return isinstance(other, Same) and self.heights == other.heights

    def shows(self, one, other):
        """Whether these are heights as described, and the programs write the same, which is decided anew."""
        check_both(one, other)
        return are_heights(one, other, self.heights) and not marks_differ(one, other)


class Differ:
    """Shows that two programs do not write the same, by a text."""

    def __init__(self, text):
        self.text = text

    def __bool__(self):
        return False

    def __eq__(self, other):
        return isinstance(other, Differ) and self.text == other.text

    def shows(self, one, other):
        """Whether they write unlike things for the text."""
        check_both(one, other)
        return is_made_of(self.text, one.letters) and thrifty_text(one, self.text) != thrifty_text(other, self.text)


def judge_lengths(one, other):
    """An Even, if both write for the same texts, and texts of the same lengths, otherwise an Uneven."""
    check_both(one, other)
    heights = heights_of(one, other)
    if heights is not None:
        return Even(heights)
    return Uneven(first_apart(Reader(uniform(one)), Reader(uniform(other)), None, unlike))


def judge_same(one, other):
    """A Same, if both write the same for all texts, otherwise a Differ."""
    check_both(one, other)
    return judge_thrifty_ones(one, other)


def write_same(one, other):
    """Whether both write the same for all texts."""
    return isinstance(judge_same(one, other), Same)


def judge_thrifty_ones(one, other):
    """What judge_same returns, for two thrifty programs with the same letters."""
    text, heights = decided(Reader(one), Reader(other), unlike, lambda: heights_if_same(one, other))
    return Same(heights) if text is None else Differ(text)


def heights_if_same(one, other):
    """The heights of two programs that write the same for all texts, None for others."""
    heights = heights_of(one, other)
    return None if heights is None or marks_differ(one, other) else heights


def check_both(one, other):
    """Refuses what are no two thrifty programs with the same letters."""
    check_program(one)
    check_program(other)
    if one.letters != other.letters:
        raise Unlike("letters")
    check_thrifty(one)
    check_thrifty(other)


def marks_differ(one, other):
    """Whether for some text two programs have unlike signs in one place of what they write."""
    edges = MarkPairs(one, other, False).explored()
    return comes_to_nothing([list(told) for told in edges], SOURCE, GOAL)


def uniform(program):
    """The program with one sign in the place of all others: it writes the same if lengths are the same."""
    firsts = {name: even_text(program.firsts[name]) for name in program.registers}
    steps = {}
    for key in program.steps:
        following, rows = program.steps[key]
        steps[key] = (following, {name: even_row(rows[name]) for name in rows})
    ends = {state: even_row(program.ends[state]) for state in program.ends}
    return made(program.letters, program.states, program.registers, firsts, steps, ends)


def even_row(row):
    """The row with one sign in the place of all others."""
    return tuple([even_text(item) if isinstance(item, str) else item for item in row])


def even_text(text):
    """The text with one sign in the place of all others."""
    return "a" * len(text)
