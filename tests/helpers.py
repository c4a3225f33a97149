"""What several tests use: all short texts, programs made by counting through shapes, what is written sign by sign."""

import itertools

from passtexts.errors import BadProgram, NotThrifty, Unlike
from passtexts.programs import Program

PLAIN_MOVES = (
    {},
    {"x": (("x",), "a")},
    {"x": ("a", ("x",))},
    {"x": (("y",),), "y": (("x",),)},
    {"x": (("x",), ("y",)), "y": ()},
    {"x": ("ab",), "y": (("y",), "b")},
    {"x": (("y",), "a", ("x",)), "y": ("b",)},
    {"y": (("x",), "b"), "x": (("y",), "a")},
    {"x": (), "y": ()},
    {"y": ("b", ("y",)), "x": (("x",), "ba")},
)
COPY_MOVES = (
    {"y": (("x",),)},
    {"x": (("x",), "a"), "y": (("x",),)},
    {"x": (("y",), "b"), "y": (("y",), "b")},
    {"x": (("x",), ("y",)), "y": (("y",),)},
)
ENDS = (
    None,
    (("x",),),
    (("x",), ("y",)),
    (("y",), ("x",)),
    (("y",), "a", ("x",)),
    ("a",),
    (("x",), "b"),
)
FIRSTS = ({}, {"x": "a"}, {"y": "ba"}, {"x": "b", "y": "b"})


class Digits:
    """Takes one choice after the other, as a number tells; near numbers lead to choices that are far apart."""

    def __init__(self, number):
        self.number = number

    def take(self, many):
        self.number = (self.number * 6364136223846793005 + 1442695040888963407) % 2 ** 64
        # the low digits of such numbers come again and again, the high ones do not
        return (self.number >> 33) % many


def counted(number, letters, states, moves=PLAIN_MOVES):
    """The program with this number among those of a shape."""
    digits = Digits(number)
    firsts = FIRSTS[digits.take(len(FIRSTS))]
    steps = {}
    for state in range(states):
        for letter in letters:
            steps[(state, letter)] = (digits.take(states), moves[digits.take(len(moves))])
    ends = {}
    for state in range(states):
        row = ENDS[digits.take(len(ENDS))]
        if row is not None:
            ends[state] = row
    return Program(letters, states, ["x", "y"], firsts, steps, ends)


def every_text(letters, longest):
    """All texts up to a length, shorter ones first, then in order."""
    for many in range(longest + 1):
        for signs in itertools.product(sorted(letters), repeat=many):
            yield "".join(signs)


def first_text(holds, letters, longest):
    """The first of these texts for which something holds, None without one."""
    for text in every_text(letters, longest):
        if holds(text):
            return text
    return None


def first_differing(one, other, longest):
    """The first text for which two programs write unlike things."""
    return first_text(lambda text: one(text) != other(text), one.letters, longest)


def size(written):
    """The length of what is written, None if nothing is."""
    return None if written is None else len(written)


def first_uneven(one, other, longest):
    """The first text for which one refuses and the other does not, or the lengths are unlike."""
    return first_text(lambda text: size(one(text)) != size(other(text)), one.letters, longest)


def times_written(program, text, rest, name):
    """How often the content of a register behind a text comes into what is written behind a rest, by following all."""
    state, _ = program.after(text)
    held = {told: [told == name] for told in program.registers}
    for letter in rest:
        state, rows = program.steps[(state, letter)]
        held = {told: [mark for item in rows[told] if not isinstance(item, str) for mark in held[item[0]]]
                for told in program.registers}
    row = program.ends.get(state, ())
    return sum(sum(held[item[0]]) for item in row if not isinstance(item, str))


def parts_of(program):
    """All lists and dicts within a program."""
    rows = [rows for _, rows in program.steps.values()]
    return [program.registers, program.firsts, program.steps, program.ends] + rows


def shares(one, other):
    """Whether two programs have a list or a dict in common."""
    own = [id(part) for part in parts_of(one)]
    return len(set(own)) < len(own) or any(id(part) in own for part in parts_of(other))


def echo(letters="ab", states=1):
    """A program that writes what it reads."""
    steps = {(state, letter): ((state + 1) % states, {"x": (("x",), letter)})
             for state in range(states) for letter in letters}
    return Program(letters, states, ["x"], {}, steps, {state: (("x",),) for state in range(states)})


def doubling():
    """A program that is not thrifty."""
    return Program("ab", 1, ["x"], {"x": "a"}, {(0, "a"): (0, {"x": (("x",), ("x",))}), (0, "b"): (0, {})},
                   {0: (("x",),)})


def copying():
    """A program that is thrifty, but not plain: of two copies one is thrown away."""
    steps = {(0, "a"): (0, {"x": (("x",), "a"), "y": (("x",),)}), (0, "b"): (0, {"x": (("y",), "b")})}
    return Program("ab", 1, ["x", "y"], {}, steps, {0: (("x",),)})


def ending(program, ends):
    """The program with other ends."""
    return Program(program.letters, program.states, program.registers, program.firsts, program.steps, ends)


def check_refusals(case, asked):
    """Checks which error comes first, where two thrifty programs with the same letters are asked for."""
    for one, other in ((None, None), (echo(), "a"), (None, echo()), (doubling(), 1), (echo("abc"), [])):
        with case.assertRaises(BadProgram) as caught:
            asked(one, other)
        case.assertIsNone(caught.exception.part)
    for one, other in ((echo("a"), echo("b")), (echo("ab"), echo("abc")), (doubling(), echo("a")),
                       (echo("a"), doubling())):
        with case.assertRaises(Unlike) as caught:
            asked(one, other)
        case.assertEqual(caught.exception.what, "letters")
    for one, other in ((doubling(), doubling()), (echo(), doubling()), (doubling(), echo())):
        with case.assertRaises(NotThrifty):
            asked(one, other)
