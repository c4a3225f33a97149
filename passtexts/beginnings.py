"""By how much what one program writes is longer, whether it is a beginning, and whether a program's writing grows."""

from passtexts.alike import check_both, marks_differ
from passtexts.deciding import decided
from passtexts.heights import end_together
from passtexts.living import live_on_ring, thrifty_text, written_size
from passtexts.longer import Longer
from passtexts.paths import first_texts_of_both, pairs_into
from passtexts.programs import check_program, made
from passtexts.reading import Reader
from passtexts.rows import filled
from passtexts.thrifty import check_thrifty
from passtexts.values import is_made_of


class Most:
    """Shows by how many signs what the first program writes is longer, at most."""

    def __init__(self, number, text, heights):
        self.number = number
        self.text = text
        self.heights = {node: heights[node] for node in heights}

    def __bool__(self):
        return True

    def __eq__(self, other):
        return (isinstance(other, Most) and self.number == other.number and self.text == other.text
                and self.heights == other.heights)

    def shows(self, one, other):
        """Whether the number is reached by the text, and the heights tell that it is never more."""
        check_both(one, other)
        if not is_made_of(self.text, one.letters) or size_more(one, other, self.text) != self.number:
            return False
        return Longer(one, other).are_heights(self.heights, self.number)


class Endless:
    """Shows that there is no greatest number, by a text that can be read over and over between two others."""

    def __init__(self, ahead, ring, behind):
        self.ahead = ahead
        self.ring = ring
        self.behind = behind

    def __bool__(self):
        return False

    def __eq__(self, other):
        return (isinstance(other, Endless) and self.ahead == other.ahead and self.ring == other.ring
                and self.behind == other.behind)

    def shows(self, one, other):
        """Whether the second text leads both back to where they are, and makes what the first one writes longer."""
        check_both(one, other)
        if not all([is_made_of(text, one.letters) for text in (self.ahead, self.ring, self.behind)]):
            return False
        if None in [live_on_ring(program, self.ahead, self.ring, self.behind) for program in (one, other)]:
            return False
        more = size_more(one, other, self.ahead + self.ring + self.behind)
        return more is not None and more > size_more(one, other, self.ahead + self.behind)


class Begins:
    """Shows that both write for the same texts, and what the first one writes is a beginning of the other's text."""

    def __init__(self, heights):
        self.heights = {node: heights[node] for node in heights}

    def __bool__(self):
        return True

    def __eq__(self, other):
        return isinstance(other, Begins) and self.heights == other.heights

    def shows(self, one, other):
        """Whether the heights tell that it is never longer, and it is so, which is decided anew."""
        check_both(one, other)
        if not end_together(one, other, pairs_into(one, other)):
            return False
        return Longer(one, other).are_heights(self.heights, 0) and not marks_differ(one, other)


class Strays:
    """Shows that it is not so, by a text."""

    def __init__(self, text):
        self.text = text

    def __bool__(self):
        return False

    def __eq__(self, other):
        return isinstance(other, Strays) and self.text == other.text

    def shows(self, one, other):
        """Whether for the text just one writes something, or what the first one writes is no beginning."""
        check_both(one, other)
        if not is_made_of(self.text, one.letters):
            return False
        return strays(thrifty_text(one, self.text), thrifty_text(other, self.text))


class Growing:
    """Shows that what a program writes only grows at its end, by a Begins for each letter."""

    def __init__(self, told):
        self.told = [Begins(begins.heights) for begins in told]

    def __bool__(self):
        return True

    def __eq__(self, other):
        return isinstance(other, Growing) and list(self.told) == list(other.told)

    def shows(self, program):
        """Whether there is one for each letter, and shows it for the program and the one that reads it at the end."""
        check_program(program)
        check_thrifty(program)
        if len(self.told) != len(program.letters):
            return False
        for begins, letter in zip(self.told, program.letters):
            if not isinstance(begins, Begins) or not begins.shows(program, with_letter(program, letter)):
                return False
        return True


class Changing:
    """Shows that it does not, by a text and a letter behind it."""

    def __init__(self, text, letter):
        self.text = text
        self.letter = letter

    def __bool__(self):
        return False

    def __eq__(self, other):
        return isinstance(other, Changing) and self.text == other.text and self.letter == other.letter

    def shows(self, program):
        """Whether what is written for the text is no beginning of what is written with the letter behind it."""
        check_program(program)
        check_thrifty(program)
        if not is_made_of(self.text + self.letter, program.letters) or len(self.letter) != 1:
            return False
        return strays(thrifty_text(program, self.text), thrifty_text(program, self.text + self.letter))


def judge_longer(one, other):
    """A Most, if there is a greatest number of signs more, an Endless, if not, None, if both write for no text."""
    check_both(one, other)
    longer = Longer(one, other)
    climb = longer.climb()
    told = longer.nodes.told
    if climb.ring is not None:
        node = told[climb.ring]
        ahead = first_texts_of_both(one, other)[(node[0], node[2])]
        return Endless(ahead, climb.way.ring_text(climb.ring), longer.nodes.rests.text(climb.ring))
    best = longer.greatest(climb.sums)
    if best is None:
        return None
    return Most(climb.sums[best] + longer.starts[best], climb.way.text(best), longer.by_node(climb.sums))


def judge_beginning(one, other):
    """A Begins, if what the first one writes is always a beginning of what the other one writes, otherwise a Strays."""
    check_both(one, other)
    text, heights = decided(Reader(one), Reader(other), strays, lambda: heights_of_beginning(one, other))
    return Begins(heights) if text is None else Strays(text)


def judge_growing(program):
    """A Growing, if what the program writes only grows at its end, otherwise a Changing."""
    check_program(program)
    check_thrifty(program)
    told = []
    for letter in program.letters:
        found = judge_beginning(program, with_letter(program, letter))
        if isinstance(found, Strays):
            return Changing(found.text, letter)
        told.append(found)
    return Growing(told)


def read_before(program, letter):
    """The program that writes for each text what this one writes for it with the letter behind it."""
    check_program(program)
    return with_letter(program, letter)


def with_letter(program, letter):
    """What read_before returns, for a letter of the program."""
    ends = {}
    for state in range(program.states):
        following, rows = program.steps[(state, letter)]
        if following in program.ends:
            ends[state] = filled(program.ends[following], rows)
    return made(program.letters, program.states, program.registers, program.firsts, program.steps, ends)


def strays(written, other_written):
    """Whether just one of these is written, or the first one is no beginning of the other one."""
    if written is None:
        return other_written is not None
    return other_written is None or not other_written.startswith(written)


def size_more(one, other, text):
    """By how many signs what the first program writes for a text is longer, None if one of them refuses it."""
    size, other_size = written_size(one, text), written_size(other, text)
    return None if size is None or other_size is None else size - other_size


def heights_of_beginning(one, other):
    """The heights that tell that the first program never writes more, None if it writes no beginning for some text."""
    if not end_together(one, other, pairs_into(one, other)):
        return None
    longer = Longer(one, other)
    climb = longer.climb()
    if climb.ring is not None:
        return None
    best = longer.greatest(climb.sums)
    if best is not None and climb.sums[best] + longer.starts[best] > 0:
        return None
    return None if marks_differ(one, other) else longer.by_node(climb.sums)
