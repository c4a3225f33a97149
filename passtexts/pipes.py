"""Pipes: programs that are done one behind the other."""

from itertools import permutations

from passtexts.alike import Differ, Same, judge_thrifty_ones
from passtexts.behind import one_behind_other, reads_all
from passtexts.errors import BadNumber, BadPipe, BadProgram, Unlike
from passtexts.living import thrifty_text
from passtexts.places import Places
from passtexts.programs import Program, copied, made
from passtexts.sets import judge_into, least_of
from passtexts.thrifty import Thrifty, is_plain, judge_thrifty
from passtexts.values import check_word, is_number

MOST_STAGES = 6
MOST_ORDERED = 4
SHORT = 3


class Pipe:
    """Programs of which the first one reads a text, and each later one what the one ahead of it writes."""

    def __init__(self, stages):
        if not isinstance(stages, (list, tuple)) or not 1 <= len(stages) <= MOST_STAGES:
            raise BadPipe(None)
        number = first_unfit(stages)
        if number is not None:
            raise BadPipe(number)
        self.stages = [copied(stage) for stage in stages]

    def __eq__(self, other):
        return isinstance(other, Pipe) and self.stages == other.stages

    def __len__(self):
        return len(self.stages)

    def __call__(self, text):
        """What the last stage writes, None if one of them refuses."""
        return self.through(text)[-1]

    def through(self, text):
        """The list of what the stages write, None from the first one on that refuses."""
        check_word(self.stages[0].letters, text)
        found = []
        for stage in self.stages:
            text = None if text is None else stage(text)
            found.append(text)
        return found

    def refuses(self, text):
        """The number of the stage that refuses, None without one."""
        written = self.through(text)
        return written.index(None) if None in written else None

    def stage(self, number):
        """The stage with this number."""
        if not is_place(number, len(self.stages)):
            raise BadNumber("no stage")
        return copied(self.stages[number])


def piped(*things):
    """The pipe of the stages of pipes, and of programs, one behind the other."""
    stages = []
    for thing in things:
        if isinstance(thing, Pipe):
            stages.extend(thing.stages)
        elif isinstance(thing, Program):
            stages.append(thing)
        else:
            raise BadProgram(None)
    return Pipe(stages)


def fused(pipe):
    """The program that writes what a pipe writes."""
    check_pipe(pipe)
    return fused_ahead(pipe)[-1]


def merged(pipe, number):
    """The pipe with a stage and the next one in one program."""
    check_pipe(pipe)
    check_pair(pipe, number)
    stages = pipe.stages
    return Pipe(stages[:number] + [one_behind_other(stages[number], stages[number + 1])] + stages[number + 2:])


def judge_pipes(one, other):
    """What judge_same returns for the programs that write what two pipes write."""
    check_pipe(one)
    check_pipe(other)
    if letters_of(one) != letters_of(other):
        raise Unlike("letters")
    text = apart_soon(one.stages, other.stages)
    return judge_thrifty_ones(fused(one), fused(other)) if text is None else Differ(text)


def needless_stages(pipe):
    """The ascending list of the numbers of the stages each of which can be taken out alone."""
    check_pipe(pipe)
    program = fused(pipe)
    return [number for number in range(len(pipe)) if are_same(without_stage(pipe.stages, number), program)]


def leaned(pipe):
    """The pipe without the stages that can be taken out, from the last one on, again and again."""
    check_pipe(pipe)
    program = fused(pipe)
    stages = pipe.stages
    many = 0
    while many != len(stages):
        many = len(stages)
        for number in reversed(range(many)):
            left = without_stage(stages, number)
            if are_same(left, program):
                stages = left
    return Pipe(stages)


def idle_stages(pipe):
    """The ascending list of the numbers of stages from 1 on that write just what comes to them, and refuse nothing."""
    check_pipe(pipe)
    programs = fused_ahead(pipe)
    return [number for number in range(1, len(pipe)) if write_alike(programs[number - 1], programs[number])]


def orders(pipe):
    """The list of the orders of the stages in which they are a pipe that writes the same."""
    check_pipe(pipe)
    if len(pipe) > MOST_ORDERED:
        raise BadNumber("too many stages")
    program = fused(pipe)
    return [order for order in permutations(range(len(pipe)))
            if are_same([pipe.stages[number] for number in order], program)]


def judge_swap(pipe, number):
    """What judge_pipes tells of a pipe and that with a stage and the next one exchanged, None if that is none."""
    check_pipe(pipe)
    check_pair(pipe, number)
    stages = pipe.stages
    swapped = stages[:number] + [stages[number + 1], stages[number]] + stages[number + 2:]
    return judge_pipes(pipe, Pipe(swapped)) if are_stages(swapped, letters_of(pipe)) else None


def refused_sets(pipe):
    """The list with, for each stage, the least set of the texts that it is the one to refuse."""
    check_pipe(pipe)
    ahead = writing_always(letters_of(pipe))
    found = []
    for program in fused_ahead(pipe):
        found.append(refused_between(ahead, program))
        ahead = program
    return found


def judge_stages(pipe, sets):
    """The list of what judge_into tells for each stage and two sets side by side."""
    check_pipe(pipe)
    if not isinstance(sets, (list, tuple)) or len(sets) != len(pipe) + 1:
        raise BadNumber("not one set more than stages")
    return [judge_into(stage, source, goal) for stage, source, goal in zip(pipe.stages, sets, sets[1:])]


def check_pipe(thing):
    """Refuses what is no pipe."""
    if not isinstance(thing, Pipe):
        raise BadPipe(None)


def check_pair(pipe, number):
    """Refuses what is not the number of a stage with a next one."""
    if not is_place(number, len(pipe) - 1):
        raise BadNumber("no stage with a next one")


def is_place(number, many):
    """Whether it is one of the first so many numbers from 0 on."""
    return is_number(number) and 0 <= number < many


def first_unfit(stages):
    """The number of the first of these that cannot be a stage there, None without one."""
    for number, stage in enumerate(stages):
        if not isinstance(stage, Program):
            return number
        if number == 0:
            fine = isinstance(judge_thrifty(stage), Thrifty)
        else:
            fine = is_plain(stage) and reads_all(stage, stages[number - 1])
        if not fine:
            return number
    return None


def are_stages(stages, letters):
    """Whether these are the stages of a pipe that reads these letters."""
    return len(stages) > 0 and first_unfit(stages) is None and stages[0].letters == letters


def letters_of(pipe):
    """The letters that a pipe reads."""
    return pipe.stages[0].letters


def without_stage(stages, number):
    """The list of the stages without one."""
    return stages[:number] + stages[number + 1:]


def fused_ahead(pipe):
    """The list of the programs that write what the first stage writes, what the first two write, and so on."""
    found = [copied(pipe.stages[0])]
    for stage in pipe.stages[1:]:
        found.append(one_behind_other(found[-1], stage))
    return found


def are_same(stages, program):
    """Whether these are the stages of a pipe that reads what a thrifty program reads, and writes the same."""
    if not are_stages(stages, program.letters) or apart_soon(stages, [program]) is not None:
        return False
    return write_alike(fused(Pipe(stages)), program)


def apart_soon(stages, others):
    """The first text, of the shortest ones, for which stages write something else than other ones, None without one."""
    # most that differ do so soon, and a few texts are read faster than programs are made one
    level = [""]
    for _ in range(SHORT + 1):
        for text in level:
            if written_at_last(stages, text) != written_at_last(others, text):
                return text
        level = [text + letter for text in level for letter in stages[0].letters]
    return None


def written_at_last(stages, text):
    """What the last one of thrifty stages writes, None if one of them refuses."""
    for stage in stages:
        text = None if text is None else thrifty_text(stage, text)
    return text


def write_alike(one, other):
    """Whether two thrifty programs with the same letters write the same for all texts."""
    return one == other or isinstance(judge_thrifty_ones(one, other), Same)


def writing_always(letters):
    """A program that reads these letters and refuses nothing."""
    return made(letters, 1, [], {}, {(0, letter): (0, {}) for letter in letters}, {0: ()})


def refused_between(ahead, program):
    """The least set of the texts that a program refuses, where one with the same letters does not."""
    places = Places((0, 0), program.letters, lambda pair, letter: (
        ahead.steps[(pair[0], letter)][0], program.steps[(pair[1], letter)][0]), None)
    return least_of(program.letters, places, lambda pair: pair[0] in ahead.ends and pair[1] not in program.ends)
