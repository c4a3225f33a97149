"""Where texts lead: the states of a program, without what registers hold."""


def first_texts(letters, steps):
    """The dict of the states that texts lead to, as they are reached, with the first text of each."""
    texts = {0: ""}
    waiting = [0]
    at = 0
    while at < len(waiting):
        state = waiting[at]
        at = at + 1
        for letter in letters:
            following = steps[(state, letter)][0]
            if following not in texts:
                texts[following] = texts[state] + letter
                waiting.append(following)
    return texts


def steps_into(program):
    """The dict of the reached states, each with the list of the pairs of a reached state and a letter ahead of it."""
    reached = sorted(first_texts(program.letters, program.steps))
    into = {state: [] for state in reached}
    for state in reached:
        for letter in program.letters:
            into[program.steps[(state, letter)][0]].append((state, letter))
    return into


def pairs_into(one, other):
    """The same for the pairs of states to which some text leads both programs."""
    into = {(0, 0): []}
    waiting = [(0, 0)]
    at = 0
    while at < len(waiting):
        pair = waiting[at]
        at = at + 1
        for letter in one.letters:
            following = (one.steps[(pair[0], letter)][0], other.steps[(pair[1], letter)][0])
            if following not in into:
                into[following] = []
                waiting.append(following)
            into[following].append((pair, letter))
    return into


def first_texts_of_both(one, other):
    """The dict of the pairs of states to which some text leads both programs, with the first text of each."""
    texts = {(0, 0): ""}
    waiting = [(0, 0)]
    at = 0
    while at < len(waiting):
        pair = waiting[at]
        at = at + 1
        for letter in one.letters:
            following = (one.steps[(pair[0], letter)][0], other.steps[(pair[1], letter)][0])
            if following not in texts:
                texts[following] = texts[pair] + letter
                waiting.append(following)
    return texts


def path_of(program, text):
    """The list of the states that a text leads through, from the first one on."""
    path = [0]
    for letter in text:
        path.append(program.steps[(path[-1], letter)][0])
    return path
