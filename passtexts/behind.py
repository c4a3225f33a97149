"""Programs one behind the other, as one program."""

from passtexts.alike import judge_thrifty_ones
from passtexts.errors import NotPlain, Unlike
from passtexts.needless import idle_registers, trimmed, without
from passtexts.programs import check_program, made
from passtexts.rows import text_of
from passtexts.shapes import Shapes
from passtexts.thrifty import check_thrifty, is_plain


def behind(one, other):
    """The program that writes what the other one writes for what the first one writes."""
    check_behind(one, other)
    return one_behind_other(one, other)


def text_itself(program):
    """The program that writes the text itself, where this one does not refuse it."""
    check_program(program)
    steps = {key: (program.steps[key][0], {"x": (("x",), key[1])}) for key in program.steps}
    ends = {state: (("x",),) for state in program.ends}
    return made(program.letters, program.states, ["x"], {}, steps, ends)


def judge_undoes(one, other):
    """Tells whether the other one writes the text again for what the first one writes."""
    check_behind(one, other)
    return judge_thrifty_ones(one_behind_other(one, other), text_itself(one))


def judge_commute(one, other):
    """Tells whether both write the same, whichever comes first."""
    check_behind(one, other)
    check_behind(other, one)
    if one.letters != other.letters:
        raise Unlike("letters")
    return judge_thrifty_ones(one_behind_other(one, other), one_behind_other(other, one))


def judge_again(program):
    """Tells whether the program writes the same, if it is done twice."""
    check_behind(program, program)
    return judge_thrifty_ones(one_behind_other(program, program), program)


def one_behind_other(one, other):
    """What behind returns, for two programs of which it can be asked; it is thrifty."""
    both = trimmed(joined(trimmed(one), trimmed(other)))
    return without(both, idle_registers(both))


def check_behind(one, other):
    """Refuses what cannot be done one behind the other."""
    check_program(one)
    check_program(other)
    check_thrifty(one)
    if not is_plain(other):
        raise NotPlain("a register stands twice")
    if not reads_all(other, one):
        raise Unlike("signs")


def reads_all(program, ahead):
    """Whether a program reads all signs that stand in the rows and first contents of another one."""
    return all([sign in program.letters for text in texts_of(ahead) for sign in text])


def texts_of(program):
    """The list of all texts in the rows and first contents of a program."""
    rows = list(program.ends.values())
    for key in program.steps:
        rows.extend(list(program.steps[key][1].values()))
    return list(program.firsts.values()) + [item for row in rows for item in row if isinstance(item, str)]


def joined(one, other):
    """The program of both, with a state for each state of the first one and shapes that come up."""
    shapes = Shapes(one, other)
    begun, held = shapes.all_parted({name: (one.firsts[name],) for name in one.registers}, ())
    places = [(0, begun)]
    numbers = {places[0]: 0}
    steps, ends = {}, {}
    at = 0
    while at < len(places):
        state, told = places[at]
        for letter in one.letters:
            following, rows = one.steps[(state, letter)]
            shape, moved = shapes.all_parted(rows, told)
            place = (following, shape)
            if place not in numbers:
                numbers[place] = len(places)
                places.append(place)
            steps[(at, letter)] = (numbers[place], moved)
        row = shapes.ended(one.ends[state], told) if state in one.ends else None
        if row is not None:
            ends[at] = row
        at = at + 1
    return with_pieces(one.letters, len(places), held, steps, ends)


def with_pieces(letters, states, held, steps, ends):
    """The program whose registers are all pieces that come up."""
    pieces = dict(held)
    for key in steps:
        pieces.update(steps[key][1])
    # a piece that is not told is needed no more, and to keep it beside the row that takes it would make a copy
    cleared = {key: (steps[key][0], {name: steps[key][1].get(name, ()) for name in pieces}) for key in steps}
    firsts = {name: text_of(held[name], {}) for name in held}
    return made(letters, states, list(pieces), firsts, cleared, ends)
