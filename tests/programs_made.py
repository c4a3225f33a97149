"""More that several tests use: origins followed sign by sign, pairs of small programs, how evidence is changed."""

from passtexts.programs import Program
from passtexts.thrifty import judge_thrifty
from tests.helpers import COPY_MOVES, PLAIN_MOVES, Digits, counted, ending
from tests.test_same import doubled, renamed, shuffled


def signs_and_origins(program, text):
    """The list of the pairs of the signs that are written and where they were put in, None if it is refused."""
    state = 0
    held = {name: [(sign, -1) for sign in program.firsts[name]] for name in program.registers}

    def put(row, at):
        found = []
        for item in row:
            found.extend([(sign, at) for sign in item] if isinstance(item, str) else held[item[0]])
        return found

    for at, letter in enumerate(text):
        state, rows = program.steps[(state, letter)]
        held = {name: put(rows[name], at) for name in program.registers}
    return put(program.ends[state], len(text)) if state in program.ends else None


def parted(program):
    """The program with two registers for each one, what is put in last is in the second one; it writes the same."""
    told = {"x": "u", "y": "v"}

    def whole(row):
        return tuple(part for item in row
                     for part in ((item,) if isinstance(item, str) else (item, (told[item[0]],))))

    steps = {}
    for key, (state, rows) in program.steps.items():
        moved = {}
        for name in "xy":
            row = whole(rows[name])
            last = isinstance(row[-1], str) if row else False
            moved[name] = row[:-1] if last else row
            moved[told[name]] = row[-1:] if last else ()
        steps[key] = (state, moved)
    ends = {state: whole(row) for state, row in program.ends.items()}
    return Program(program.letters, program.states, ["x", "y", "u", "v"], program.firsts, steps, ends)


def of_one_sign(program):
    """The program with the sign a in the place of all others."""
    def even(text):
        return "a" * len(text)

    def row_of(row):
        return tuple(even(item) if isinstance(item, str) else item for item in row)

    steps = {key: (step[0], {name: row_of(row) for name, row in step[1].items()})
             for key, step in program.steps.items()}
    return Program(program.letters, program.states, program.registers,
                   {name: even(text) for name, text in program.firsts.items()}, steps,
                   {state: row_of(row) for state, row in program.ends.items()})


def put_in_elsewhere(program, number):
    """The program with a sign taken from first contents or rows at the end and put into others."""
    digits = Digits(number + 15485863)
    firsts = {name: program.firsts[name] + ("", "a", "b")[digits.take(3)] for name in "xy"}
    ends = {}
    for state, row in program.ends.items():
        kind = digits.take(4)
        ends[state] = (row, row + ("a",), ("b",) + row, row[:-1])[kind]
    return Program(program.letters, program.states, program.registers, firsts, program.steps, ends)


def refusing(program, number):
    """The program without some ends."""
    return ending(program, {state: row for state, row in program.ends.items() if (number >> state) % 2})


def thrifty_pairs(many, step=1):
    """Pairs of small thrifty programs, most of them made of the same one in unlike ways."""
    for number in range(0, many, step):
        letters = "ab" if number % 3 else "a"
        one = counted(number, letters, 1 + number % 3, PLAIN_MOVES + COPY_MOVES if number % 2 else PLAIN_MOVES)
        if not judge_thrifty(one):
            continue
        even = of_one_sign(one)
        for first, second in ((one, renamed(one)), (one, doubled(one)), (one, shuffled(one, number)),
                              (parted(one), one), (one, put_in_elsewhere(one, number)), (one, refusing(one, number)),
                              (one, counted(number + 7919, letters, 1 + number % 2)), (even, shuffled(even, number)),
                              (even, put_in_elsewhere(even, number))):
            if judge_thrifty(second):
                yield first, second
