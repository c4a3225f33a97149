"""Live registers: those whose contents come into what is written, followed from the end back."""

from passtexts.paths import first_texts, path_of
from passtexts.rows import ascending, names_in, names_in_rows, signs_in, signs_in_rows, text_of


class Living:
    """What is live ahead of the steps of a program, kept once it is found."""

    def __init__(self, program):
        self.program = program
        self.found = {}

    def ahead(self, state, letter, live):
        """The live registers ahead of a step, for those behind it, and how many signs it puts into these."""
        key = (state, letter, live)
        if key not in self.found:
            rows = self.program.steps[(state, letter)][1]
            self.found[key] = (ascending(names_in_rows(rows, live)), signs_in_rows(rows, live))
        return self.found[key]


def is_live(program, live):
    """Whether it is an ascending tuple of registers of the program, each once."""
    if not isinstance(live, tuple):
        return False
    known = {name: True for name in program.registers}
    return all([isinstance(name, str) and name in known for name in live]) and ascending(live) == live


def first_signs(program, live):
    """How many signs these registers hold at first."""
    return sum([len(program.firsts[name]) for name in live])


def lives_along(program, text, path):
    """The list of the live registers at each state of a path that ends where something is written."""
    living = Living(program)
    lives = [ascending(names_in(program.ends[path[-1]]))]
    for place in reversed(range(len(text))):
        lives.append(living.ahead(path[place], text[place], lives[-1])[0])
    return lives[::-1]


def live_on_ring(program, ahead, ring, behind):
    """The registers that are live ahead of the second text and behind it, if it leads a state to itself with them.

    None, if it does not, or if nothing is written for the three texts.
    """
    whole = ahead + ring + behind
    path = path_of(program, whole)
    here, there = len(ahead), len(ahead) + len(ring)
    if path[-1] not in program.ends or path[here] != path[there]:
        return None
    lives = lives_along(program, whole, path)
    return lives[here] if lives[here] == lives[there] else None


def thrifty_text(program, text):
    """What a thrifty program writes for a text, None if it refuses it."""
    path = path_of(program, text)
    if path[-1] not in program.ends:
        return None
    # what is not live may grow beyond all bounds, also where what is written stays short
    lives = lives_along(program, text, path)
    held = {name: program.firsts[name] for name in lives[0]}
    for place, letter in enumerate(text):
        rows = program.steps[(path[place], letter)][1]
        held = {name: text_of(rows[name], held) for name in lives[place + 1]}
    return text_of(program.ends[path[-1]], held)


def written_size(program, text):
    """How many signs a thrifty program writes for a text, None if it refuses it."""
    path = path_of(program, text)
    if path[-1] not in program.ends:
        return None
    lives = lives_along(program, text, path)
    many = first_signs(program, lives[0]) + signs_in(program.ends[path[-1]])
    for place, letter in enumerate(text):
        many = many + signs_in_rows(program.steps[(path[place], letter)][1], lives[place + 1])
    return many


def useful_registers(program):
    """The dict of the reached states, each with the ascending tuple of the registers that are live for some rest."""
    reached = first_texts(program.letters, program.steps)
    live = {}
    givers = {}
    for state in reached:
        for name in names_in(program.ends.get(state, ())):
            live[(state, name)] = True
        for letter in program.letters:
            following, rows = program.steps[(state, letter)]
            for name in program.registers:
                places = [(state, told) for told in names_in(rows[name])]
                givers.setdefault((following, name), []).extend(places)
    found = spread(live, givers)
    return {state: tuple([name for name in program.registers if (state, name) in found]) for state in sorted(reached)}


def filled_registers(program):
    """The dict of the pairs of a reached state and a register that holds some sign there, for some text."""
    filled = {(0, name): True for name in program.registers if program.firsts[name]}
    takers = {}
    for state in first_texts(program.letters, program.steps):
        for letter in program.letters:
            following, rows = program.steps[(state, letter)]
            for name in program.registers:
                if signs_in(rows[name]) > 0:
                    filled[(following, name)] = True
                for told in names_in(rows[name]):
                    takers.setdefault((state, told), []).append((following, name))
    return spread(filled, takers)


def spread(told, following):
    """The dict of what is told, and of what follows from it, itself or by others between."""
    found = {thing: True for thing in told}
    waiting = list(found)
    while waiting:
        for thing in following.get(waiting.pop(), []):
            if thing not in found:
                found[thing] = True
                waiting.append(thing)
    return found
