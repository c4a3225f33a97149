"""Sets of texts, told by states, and programs that write into them."""

from passtexts.errors import BadSet, Unlike
from passtexts.parts import are_letters, is_state
from passtexts.places import Places, kinds_of
from passtexts.programs import check_program
from passtexts.standings import Standings
from passtexts.values import check_word, tupled

MOST_STATES = 60
MOST_STANDINGS = 4000


class TextSet:
    """The texts whose letters lead from state 0 to one of the ends."""

    def __init__(self, letters, steps, ends):
        if not are_letters(letters):
            raise BadSet("letters")
        if not are_moves(steps, letters):
            raise BadSet("steps")
        if not are_states(ends, len(steps)):
            raise BadSet("ends")
        self.letters = "".join(sorted(letters))
        self.steps = [{letter: told[letter] for letter in self.letters} for told in steps]
        self.ends = sorted(set(ends))

    def __eq__(self, other):
        return (isinstance(other, TextSet) and self.letters == other.letters and self.steps == other.steps
                and self.ends == other.ends)

    def __len__(self):
        return len(self.steps)

    def __contains__(self, text):
        if not isinstance(text, str):
            return False
        state = 0
        for letter in text:
            if letter not in self.letters:
                return False
            state = self.steps[state][letter]
        return state in self.ends

    def after(self, text, state=0):
        """The state behind a text, from a state on."""
        check_word(self.letters, text)
        for letter in text:
            state = self.steps[state][letter]
        return state

    def first(self):
        """The first text of the set, None without one."""
        places = places_of(self)
        for state, text in zip(places.told, places.texts):
            if state in self.ends:
                return text
        return None


class Into:
    """Shows that a program writes texts of one set for all texts of another one, by what its registers can hold."""

    def __init__(self, standings):
        self.standings = [tupled(standing) for standing in standings]

    def __bool__(self):
        return True

    def __eq__(self, other):
        return isinstance(other, Into) and tupled(self.standings) == tupled(other.standings)

    def shows(self, program, source, goal):
        """Whether the start is in these, each letter leads from each to one of them, and all of them fit."""
        check_into(program, source, goal)
        around = Standings(program, goal)
        told = {}
        for triple in tupled(self.standings):
            place = place_of(around, source, triple)
            if place is None:
                return False
            told[place] = True
        if (around.start(), 0) not in told:
            return False
        for standing, state in told:
            if state in source.ends and not around.fits(standing):
                return False
            following = [(around.behind(standing, letter), source.steps[state][letter]) for letter in source.letters]
            if not all([place in told for place in following]):
                return False
        return True


class FallsOut:
    """Shows that it does not, by a text of the set."""

    def __init__(self, text):
        self.text = text

    def __bool__(self):
        return False

    def __eq__(self, other):
        return isinstance(other, FallsOut) and self.text == other.text

    def shows(self, program, source, goal):
        """Whether nothing, or no text of the other set, is written for this text of the first one."""
        check_into(program, source, goal)
        # what registers hold may be too long to be written out
        around = Standings(program, goal)
        return self.text in source and not around.fits(around.behind_text(self.text))


def least(texts):
    """The least set with the same texts."""
    check_set(texts)
    return least_of(texts.letters, places_of(texts), lambda state: state in texts.ends)


def both(one, other):
    """The least set of the texts that are in both."""
    check_sets(one, other)
    return least_of(one.letters, pairs_of(one, other), lambda pair: pair[0] in one.ends and pair[1] in other.ends)


def either(one, other):
    """The least set of the texts that are in one of them, or both."""
    check_sets(one, other)
    return least_of(one.letters, pairs_of(one, other), lambda pair: pair[0] in one.ends or pair[1] in other.ends)


def without(one, other):
    """The least set of the texts that are in the first one, and not in the other one."""
    check_sets(one, other)
    return least_of(one.letters, pairs_of(one, other), lambda pair: pair[0] in one.ends and pair[1] not in other.ends)


def parting(one, other):
    """The first text that is in just one of them, None without one."""
    check_sets(one, other)
    pairs = pairs_of(one, other)
    for (state, other_state), text in zip(pairs.told, pairs.texts):
        if (state in one.ends) != (other_state in other.ends):
            return text
    return None


def domain(program):
    """The least set of the texts that a program does not refuse."""
    check_program(program)
    places = Places(0, program.letters, lambda state, letter: program.steps[(state, letter)][0], None)
    return least_of(program.letters, places, lambda state: state in program.ends)


def judge_into(program, source, goal):
    """An Into, if the program writes texts of the goal for all texts of the source, otherwise a FallsOut."""
    check_into(program, source, goal)
    around = Standings(program, goal)
    places = Places((around.start(), 0), program.letters, lambda place, letter: (
        around.behind(place[0], letter), source.steps[place[1]][letter]), MOST_STANDINGS)
    for (standing, state), text in zip(places.told, places.texts):
        if state in source.ends and not around.fits(standing):
            return FallsOut(text)
    return Into([(standing[0], state, around.maps_of(standing)) for standing, state in places.told])


def texts_into(program, goal):
    """The least set of the texts for which what is written is in a set."""
    check_program(program)
    check_set(goal)
    around = Standings(program, goal)
    places = Places(around.start(), program.letters, lambda standing, letter: around.behind(standing, letter),
                    MOST_STANDINGS)
    return least_of(program.letters, places, lambda standing: around.fits(standing))


def are_moves(steps, letters):
    """Whether these are a list of dicts from all letters to states, one for each state."""
    if not isinstance(steps, (list, tuple)) or not 1 <= len(steps) <= MOST_STATES:
        return False
    return all([is_move(told, letters, len(steps)) for told in steps])


def is_move(told, letters, states):
    """Whether it is a dict from all letters to states."""
    # as many keys as there are letters, each of them one, are all of the letters
    if not isinstance(told, dict) or len(told) != len(letters):
        return False
    return all([is_letter(key, letters) and is_state(told[key], states) for key in told])


def is_letter(key, letters):
    """Whether it is one of these letters."""
    return isinstance(key, str) and len(key) == 1 and key in letters


def are_states(ends, states):
    """Whether this is a list of states."""
    return isinstance(ends, (list, tuple)) and all([is_state(state, states) for state in ends])


def check_set(thing):
    """Refuses what is no set of texts."""
    if not isinstance(thing, TextSet):
        raise BadSet(None)


def check_sets(one, other):
    """Refuses what are no two sets with the same letters."""
    check_set(one)
    check_set(other)
    if one.letters != other.letters:
        raise Unlike("letters")


def check_into(program, source, goal):
    """Refuses what are no program and two sets, the first one of its letters."""
    check_program(program)
    check_set(source)
    check_set(goal)
    if program.letters != source.letters:
        raise Unlike("letters")


def places_of(texts):
    """The states to which texts lead."""
    return Places(0, texts.letters, lambda state, letter: texts.steps[state][letter], None)


def pairs_of(one, other):
    """The pairs of states to which texts lead two sets."""
    return Places((0, 0), one.letters, lambda pair, letter: (one.steps[pair[0]][letter], other.steps[pair[1]][letter]),
                  None)


def least_of(letters, places, is_end):
    """The least set of the texts that lead to places for which a function tells that they are ends."""
    ends = [is_end(place) for place in places.told]
    kinds = kinds_of(places.moves, ends, MOST_STATES)
    steps = []
    found = []
    for place, kind in enumerate(kinds):
        if kind == len(steps):
            steps.append({letter: kinds[move] for letter, move in zip(letters, places.moves[place])})
            if ends[place]:
                found.append(kind)
    return TextSet(letters, steps, found)


def place_of(around, source, triple):
    """The pair of a standing and a state of the source that a triple tells, None if it is no such triple."""
    if not isinstance(triple, tuple) or len(triple) != 3 or not is_state(triple[1], len(source.steps)):
        return None
    standing = around.standing_of(triple[0], triple[2])
    return None if standing is None else (standing, triple[1])
