"""How long what is written can be, for so many letters, and in the long run."""

from math import gcd

from passtexts.errors import BadNumber
from passtexts.living import live_on_ring
from passtexts.paths import first_texts, path_of
from passtexts.programs import check_program
from passtexts.rates import LiveNodes, signs_along
from passtexts.thrifty import check_thrifty
from passtexts.values import is_made_of, is_number

MOST_LETTERS = 1000


class Rate:
    """Shows that in the long run at most top signs are written for below letters, and that as many are."""

    def __init__(self, top, below, ahead, ring, behind, heights):
        self.top = top
        self.below = below
        self.ahead = ahead
        self.ring = ring
        self.behind = behind
        self.heights = {node: heights[node] for node in heights}

    def __bool__(self):
        return True

    def __eq__(self, other):
        return (isinstance(other, Rate) and self.top == other.top and self.below == other.below
                and self.ahead == other.ahead and self.ring == other.ring and self.behind == other.behind
                and self.heights == other.heights)

    def shows(self, program):
        """Whether the ring puts in as many signs, and the heights tell that none puts in more."""
        check_long(program)
        if self.below < 1 or not self.ring_puts_in(program):
            return False
        return LiveNodes(program).rise(self.heights, self.top, self.below)

    def ring_puts_in(self, program):
        """Whether the ring leads a state, with the same registers live, to itself, and puts in as many signs."""
        if not is_made_of(self.ahead + self.ring + self.behind, program.letters) or self.ring == "":
            return False
        live = live_on_ring(program, self.ahead, self.ring, self.behind)
        if live is None:
            return False
        state = path_of(program, self.ahead)[-1]
        return signs_along(program, state, self.ring, live) * self.below == self.top * len(self.ring)


def longest(program, many):
    """The greatest length of what is written for texts of so many letters, None if all are refused."""
    check_long(program)
    if not is_number(many) or not 0 <= many <= MOST_LETTERS:
        raise BadNumber("not a number of letters")
    live = LiveNodes(program)
    sums = live.at_ends()
    for _ in range(many):
        sums = live.one_letter_on(sums)
    return live.greatest(sums)


def judge_rate(program):
    """A Rate, None if texts are written for only up to some length."""
    check_long(program)
    live = LiveNodes(program)
    # as if each letter put in a sign more, so that each ring raises the heights
    climb = live.climb_beside(-1, 1)
    if climb.ring is None:
        return None
    while climb.ring is not None:
        state, names = live.nodes.told[climb.ring]
        ring = climb.way.ring_text(climb.ring)
        behind = live.nodes.rests.text(climb.ring)
        many = signs_along(program, state, ring, names)
        divisor = gcd(many, len(ring))
        top, below = many // divisor, len(ring) // divisor
        climb = live.climb_beside(top, below)
    ahead = first_texts(program.letters, program.steps)[state]
    heights = {node: climb.sums[number] for number, node in enumerate(live.nodes.told)}
    return Rate(top, below, ahead, ring, behind, {node: heights[node] for node in sorted(heights)})


def most_length(program):
    """The greatest length of all that is written, 0 if nothing is, None if there is no greatest one."""
    check_long(program)
    live = LiveNodes(program)
    climb = live.climb()
    if climb.ring is not None:
        return None
    found = live.greatest(climb.sums)
    return 0 if found is None else found


def check_long(program):
    """Refuses what is no thrifty program."""
    check_program(program)
    check_thrifty(program)
