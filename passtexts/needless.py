"""Registers and states that a program does not need."""

from passtexts.errors import BadName
from passtexts.living import filled_registers, spread, useful_registers
from passtexts.paths import first_texts
from passtexts.programs import check_program, made
from passtexts.rows import names_in
from passtexts.thrifty import check_thrifty


def emptied(program, name):
    """The program without a register, whose content is taken for empty everywhere."""
    check_program(program)
    if name not in program.registers:
        raise BadName(name)
    return without(program, [name])


def needless(program):
    """The ascending list of the registers each of which alone can be taken for empty, and the same is written."""
    check_program(program)
    check_thrifty(program)
    return idle_registers(program)


def leaned(program):
    """The program from which registers are taken, from the last one on, if what is left still writes the same."""
    # no sign that is written passes through any of these, so taking one out changes nothing for the others
    return without(program, needless(program))


def idle_registers(program):
    """The ascending list of the registers through which no sign that is written passes."""
    # without a register just the signs that pass through it are missing, so the same is written if none does
    useful = useful_registers(program)
    filled = filled_registers(program)
    needed = {name: True for state in useful for name in useful[state] if (state, name) in filled}
    return [name for name in program.registers if name not in needed]


def trimmed(program):
    """The program with its reached states alone, as they are reached, and with the registers alone that are in use."""
    check_program(program)
    reached = list(first_texts(program.letters, program.steps))
    numbers = {state: number for number, state in enumerate(reached)}
    registers = used_registers(program, reached)
    steps = {}
    for state in reached:
        for letter in program.letters:
            following, rows = program.steps[(state, letter)]
            steps[(numbers[state], letter)] = (numbers[following], {name: rows[name] for name in registers})
    ends = {numbers[state]: program.ends[state] for state in reached if state in program.ends}
    return made(program.letters, len(reached), registers, program.firsts, steps, ends)


def without(program, names):
    """The program without these registers, whose contents are taken for empty."""
    left = [name for name in program.registers if name not in names]
    steps = {}
    for key in program.steps:
        following, rows = program.steps[key]
        steps[key] = (following, {name: row_without(rows[name], names) for name in left})
    ends = {state: row_without(program.ends[state], names) for state in program.ends}
    return made(program.letters, program.states, left, program.firsts, steps, ends)


def row_without(row, names):
    """The row without these registers."""
    return tuple([item for item in row if isinstance(item, str) or item[0] not in names])


def used_registers(program, reached):
    """The ascending list of the registers in the rows of ends of these states, and in the rows of such registers."""
    used = {}
    takers = {}
    for state in reached:
        for name in names_in(program.ends.get(state, ())):
            used[name] = True
        for letter in program.letters:
            rows = program.steps[(state, letter)][1]
            for name in program.registers:
                takers.setdefault(name, []).extend(names_in(rows[name]))
    return sorted(spread(used, takers))
