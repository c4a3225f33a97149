"""Pipes that several tests use, and what they do, stage by stage."""

import itertools

from passtexts.compiling import compiled
from passtexts.programs import Program
from passtexts.scripts import read_script
from passtexts.thrifty import is_plain, judge_thrifty
from tests.helpers import COPY_MOVES, PLAIN_MOVES, copying, counted, echo, ending, every_text
from tests.scripts_made import counted_script, script_text
from tests.test_behind import every_other, exchanging, halves, leaving_out, turning

HEAD = "letters ab; counter n 2; text x; "
FEW = compiled(read_script(HEAD + 'on a { n = n + 1; x = x "a"; if n = 2 { stop; } } on b { x = x "b"; } end: x;'))
SHORT = compiled(read_script(HEAD + 'on any when n = 2 { stop; } on a { n = n + 1; x = x "a"; } on b { n = n + 1; x = x "b"; } end: x;'))
LAST = compiled(read_script(HEAD + 'on a { n = 1; x = x "a"; } on b { n = 2; x = x "b"; } end when n = 2: x; end: none;'))
ADDING = ending(echo(), {0: (("x",), "a")})
AROUND = ending(copying(), {0: ("b", ("x",), "a")})
SHAPES = (turning(), leaving_out("a"), exchanging(), every_other(2), echo(), FEW, LAST, ADDING)


def by_stages(stages, text):
    """What stages write, one behind the other, None from the first one on that refuses."""
    found = []
    for stage in stages:
        text = None if text is None else stage(text)
        found.append(text)
    return found


def fitting(stages):
    """Whether these are stages of a pipe, as the document tells."""
    for number, stage in enumerate(stages):
        if not (is_plain(stage) if number else judge_thrifty(stage)):
            return False
        if number and any(sign not in stage.letters for sign in signs_of(stages[number - 1])):
            return False
    return 1 <= len(stages) <= 6


def signs_of(program):
    """All signs in rows and first contents."""
    rows = [row for _, rows in program.steps.values() for row in rows.values()] + list(program.ends.values())
    return "".join([item for row in rows for item in row if isinstance(item, str)] + list(program.firsts.values()))


def some_stages():
    """Lists of stages: of shapes by hand, of programs made by counting, and of compiled scripts."""
    for many in (1, 2):
        yield from (list(told) for told in itertools.product(SHAPES, repeat=many))
    shapes = SHAPES + (SHORT, halves(), AROUND)
    for number in range(260):
        many = 3 + number % 2
        stages = [shapes[(number * 7919 // 11 ** place + place) % len(shapes)] for place in range(many)]
        if fitting(stages):
            yield stages
    for number in range(120):
        # more states and registers would soon be more than pipes are asked for
        first = counted(number, "ab", 1 + number % 3, PLAIN_MOVES + COPY_MOVES)
        second = counted(number + 7919, "ab", 1) if number % 3 == 0 else SHAPES[number % len(SHAPES)]
        stages = [first, second, SHAPES[number % 3]]
        if fitting(stages):
            yield stages[:2 + number % 2]
    for number in range(60):
        first = compiled(read_script(script_text(counted_script(number))))
        stages = [first, SHAPES[number % len(SHAPES)]]
        if "e" not in signs_of(first) and "c" not in signs_of(first) and fitting(stages):
            yield stages


def refusing_texts(letter):
    """A program that writes the text itself, and refuses texts with a letter."""
    steps = {(state, told): (1 if told == letter else state, {"x": (("x",), told)}) for state in (0, 1) for told in "ab"}
    return Program("ab", 2, ["x"], {}, steps, {0: (("x",),)})


def first_apart(one, other, longest):
    """The first text for which two things that are called write unlike texts."""
    for text in every_text("ab", longest):
        if one(text) != other(text):
            return text
    return None
