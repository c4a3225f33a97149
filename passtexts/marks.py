"""Marks: signs of what is written, followed from the end back to where they are put in.

A mark is a triple of a state, the ascending tuple of the registers whose contents come ahead of it, and the tuple of
the register that holds it, or the sign itself once the step that puts it in is passed.
"""

from passtexts.errors import TooLarge
from passtexts.living import first_signs
from passtexts.paths import pairs_into
from passtexts.rows import ascending, names_in_rows, signs_in_rows

GOAL = 0
SOURCE = 1
MOST_NODES = 200000


class Marks:
    """The marks of a program, numbered, with what is found of them."""

    def __init__(self, program):
        self.program = program
        self.told = []
        self.numbers = {}
        self.found = {}

    def number_of(self, mark):
        """The number of a mark."""
        if mark not in self.numbers:
            self.numbers[mark] = len(self.told)
            self.told.append(mark)
        return self.numbers[mark]

    def state_of(self, number):
        """The state of a mark."""
        return self.told[number][0]

    def sign_of(self, number):
        """The sign of a mark that is put in, the empty text for others."""
        holder = self.told[number][2]
        return holder if isinstance(holder, str) else ""

    def numbered(self, state, places):
        """The list of pairs of the marks at these places, at a state, and how many signs come ahead."""
        return [(self.number_of((state, ahead, holder)), places[(ahead, holder)]) for ahead, holder in places]

    def at_end(self, state):
        """The marks in the row of an end, each with the list of how many signs are put in ahead of it."""
        return self.numbered(state, places_in(self.program.ends[state], [], 0))

    def ahead(self, number, state, letter):
        """The same for the marks that a mark can be ahead of a step."""
        key = (number, state, letter)
        if key not in self.found:
            _, ahead, holder = self.told[number]
            rows = self.program.steps[(state, letter)][1]
            names, many = names_in_rows(rows, ahead), signs_in_rows(rows, ahead)
            if isinstance(holder, str):
                places = {(ascending(names), holder): [many]}
            else:
                places = places_in(rows[holder[0]], names, many)
            self.found[key] = self.numbered(state, places)
        return self.found[key]

    def at_start(self, number):
        """The dict of the signs that a mark can be, at the first state, to the list of how many come ahead of it."""
        _, ahead, holder = self.told[number]
        many = first_signs(self.program, ahead)
        if isinstance(holder, str):
            return {holder: [many]}
        signs = {}
        for place, sign in enumerate(self.program.firsts[holder[0]]):
            signs.setdefault(sign, []).append(many + place)
        return signs


def places_in(row, names, many):
    """The places of marks in a row, behind these registers and so many signs.

    It is a dict from pairs of the registers ahead and the holder to the list of how many signs come ahead.
    """
    places = {}
    names = list(names)
    for item in row:
        ahead = ascending(names)
        if isinstance(item, str):
            for place, sign in enumerate(item):
                places.setdefault((ahead, sign), []).append(many + place)
            many = many + len(item)
        else:
            places.setdefault((ahead, item), []).append(many)
            names.append(item[0])
    return places


class MarkPairs:
    """The pairs of marks of two programs along one text, numbered, with the steps between them.

    edges is a list, by the number of the node, of dicts from pairs of a node and a sum to True: the sum is by how many
    signs more come ahead of the first mark. From SOURCE one comes to the ends, and to GOAL where the signs are unlike,
    or, if they are timed, are not put in at the same place of the text.
    """

    def __init__(self, one, other, timed):
        self.one = Marks(one)
        self.other = Marks(other)
        self.timed = timed
        self.into = pairs_into(one, other)
        self.numbers = {}
        self.edges = [{}, {}]
        self.waiting = []

    def explored(self):
        """The edges, when all pairs are followed back from the ends."""
        for state, other_state in self.into:
            if state in self.one.program.ends and other_state in self.other.program.ends:
                self.connect(SOURCE, self.one.at_end(state), self.other.at_end(other_state), False)
        while self.waiting:
            self.follow(self.waiting.pop())
        return self.edges

    def follow(self, pair):
        """Goes back from a pair of marks."""
        node = self.numbers[pair]
        states = (self.one.state_of(pair[0]), self.other.state_of(pair[1]))
        apart = self.are_apart(pair)
        if states == (0, 0):
            self.begin(node, pair, apart)
        for (state, other_state), letter in self.into[states]:
            marks = self.one.ahead(pair[0], state, letter)
            self.connect(node, marks, self.other.ahead(pair[1], other_state, letter), apart)

    def are_apart(self, pair):
        """Whether these marks are unlike, whatever signs they are, as they are timed, and one was put in already."""
        return self.timed and (self.one.sign_of(pair[0]) != "" or self.other.sign_of(pair[1]) != "")

    def connect(self, node, marks, other_marks, apart):
        """Puts edges from a node to all pairs of these marks but those that lead to nothing unlike.

        These are the ones of equal signs, if the marks of the node are not apart already.
        """
        for mark, sums in marks:
            sign = self.one.sign_of(mark)
            for other_mark, other_sums in other_marks:
                if apart or sign == "" or sign != self.other.sign_of(other_mark):
                    self.put_edges(node, self.node_of((mark, other_mark)), sums, other_sums)

    def node_of(self, pair):
        """The number of a pair of marks, which is followed later, if it is new."""
        if pair not in self.numbers:
            if len(self.edges) > MOST_NODES:
                raise TooLarge("too many pairs of marks")
            self.numbers[pair] = len(self.edges)
            self.edges.append({})
            self.waiting.append(pair)
        return self.numbers[pair]

    def put_edges(self, node, following, sums, other_sums):
        """Puts edges for all pairs of these sums."""
        edges = self.edges[node]
        for many in differences(sums, other_sums):
            edges[(following, many)] = True

    def begin(self, node, pair, apart):
        """Puts edges to GOAL for signs that are unlike, for all signs if the marks are apart already."""
        signs = self.one.at_start(pair[0])
        other_signs = self.other.at_start(pair[1])
        for sign in signs:
            for other_sign in other_signs:
                if apart or sign != other_sign:
                    self.put_edges(node, GOAL, signs[sign], other_signs[other_sign])


def differences(sums, other_sums):
    """The list of the different differences of a number of the first list and one of the second one, both ascending."""
    if len(sums) == 1:
        return [sums[0] - many for many in other_sums]
    if len(other_sums) == 1:
        return [many - other_sums[0] for many in sums]
    # one bit for each difference, as long texts have far more pairs of places than differences
    turned = 0
    for many in other_sums:
        turned = turned | (1 << (other_sums[-1] - many))
    bits = 0
    for many in sums:
        bits = bits | (turned << (many - sums[0]))
    least = sums[0] - other_sums[-1]
    return [least + place for place, bit in enumerate(f"{bits:b}"[::-1]) if bit == "1"]
