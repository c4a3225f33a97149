"""What a program does with a word, read from a state on."""

from passtexts.rows import filled, names_in_rows


def behind_word(program, state, word, names):
    """The state behind a word, and the dict of the rows of these registers there, of registers ahead of it.

    Rows of other registers are left out where they are not needed, as they may grow beyond all bounds.
    """
    moves = []
    for letter in word:
        state, rows = program.steps[(state, letter)]
        moves.append(rows)
    needed = [list(names)]
    for rows in moves[::-1]:
        needed.append(once(names_in_rows(rows, needed[-1])))
    needed.reverse()
    found = {name: ((name,),) for name in needed[0]}
    for rows, told in zip(moves, needed[1:]):
        found = {name: filled(rows[name], found) for name in told}
    return state, found


def once(names):
    """The list of these names, each once."""
    return list({name: True for name in names})
