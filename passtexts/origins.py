"""Where each sign that is written was put in, and whether two programs put in the same signs at the same places."""

from passtexts.alike import check_both
from passtexts.deciding import decided
from passtexts.heights import are_heights, heights_of
from passtexts.living import lives_along, thrifty_text
from passtexts.marks import GOAL, SOURCE, MarkPairs
from passtexts.paths import path_of
from passtexts.programs import check_program
from passtexts.reading import OriginReader, unlike
from passtexts.values import check_word, is_made_of
from passtexts.walks import comes_to_nothing


class SameFrom:
    """Shows that two programs write the same for all texts, with each sign put in at the same place."""

    def __init__(self, heights):
        self.heights = {node: heights[node] for node in heights}

    def __bool__(self):
        return True

    def __eq__(self, other):
        return isinstance(other, SameFrom) and self.heights == other.heights

    def shows(self, one, other):
        """Whether these are heights as described, and it is so, which is decided anew."""
        check_both(one, other)
        return are_heights(one, other, self.heights) and not origins_differ(one, other)


class OtherFrom:
    """Shows that it is not so, by a text."""

    def __init__(self, text):
        self.text = text

    def __bool__(self):
        return False

    def __eq__(self, other):
        return isinstance(other, OtherFrom) and self.text == other.text

    def shows(self, one, other):
        """Whether for the text they write unlike things, or some sign is not put in at the same place."""
        check_both(one, other)
        if not is_made_of(self.text, one.letters):
            return False
        if thrifty_text(one, self.text) != thrifty_text(other, self.text):
            return True
        return places_put_in(one, self.text) != places_put_in(other, self.text)


def origins(program, text):
    """The list of the places of the letters whose steps put in the signs that are written, None if it is refused.

    It is -1 for signs of first contents, and the length of the text for those of the row at the end.
    """
    check_program(program)
    check_word(program.letters, text)
    return places_put_in(program, text)


def judge_origins(one, other):
    """A SameFrom, if both put in the same signs at the same places, whatever is read, otherwise an OtherFrom."""
    check_both(one, other)
    text, heights = decided(OriginReader(one), OriginReader(other), unlike, lambda: heights_if_same_from(one, other))
    return SameFrom(heights) if text is None else OtherFrom(text)


def heights_if_same_from(one, other):
    """The heights of two programs that put in the same signs at the same places, None for others."""
    heights = heights_of(one, other)
    return None if heights is None or origins_differ(one, other) else heights


def origins_differ(one, other):
    """Whether for some text two programs have signs in one place that are unlike, or put in at unlike places."""
    edges = MarkPairs(one, other, True).explored()
    return comes_to_nothing([list(told) for told in edges], SOURCE, GOAL)


def places_put_in(program, text):
    """What origins tells for a text of the program's letters."""
    path = path_of(program, text)
    if path[-1] not in program.ends:
        return None
    # what is not live may grow beyond all bounds, also where what is written stays short
    lives = lives_along(program, text, path)
    held = {name: [-1 for _ in program.firsts[name]] for name in lives[0]}
    for place, letter in enumerate(text):
        rows = program.steps[(path[place], letter)][1]
        held = {name: places_in_row(rows[name], held, place) for name in lives[place + 1]}
    return places_in_row(program.ends[path[-1]], held, len(text))


def places_in_row(row, held, place):
    """The list of the places of the signs of a row whose own texts are put in at a place."""
    places = []
    for item in row:
        if isinstance(item, str):
            places.extend([place for _ in item])
        else:
            places.extend(held[item[0]])
    return places
