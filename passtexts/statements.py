"""Statements of scripts, as tuples: how many they are, and which ones are left when something is put in or taken out.

A statement is a triple of ROW, a text and a row of texts and tuples of one name; a quadruple of SUM, a counter, a
counter or a number, and the number that is added to it; a quadruple of IF, a guard and the statements of both sides;
a triple of DO, a part and the tuple of the names of texts it is done for; or STOP alone. A part is a triple of its
name, the tuple of its own names and its statements.
"""

from passtexts.errors import TooLarge
from passtexts.guards import asked_by

ROW = "row"
SUM = "sum"
IF = "if"
DO = "do"
STOP = "stop"
MOST_BRACES = 8
MOST_STATEMENTS = 1000


def check_sizes(parts, rules):
    """Refuses parts and rules that come to too many statements, or open braces, with those of the parts called."""
    sizes = {}
    for name, _, statements in parts:
        sizes[name] = checked_size(statements, sizes)
    for _, _, statements in rules:
        checked_size(statements, sizes)


def checked_size(statements, sizes):
    """The size of statements between braces, for the sizes of parts, if it is not too large."""
    many, braces = size_of(statements, sizes)
    if many > MOST_STATEMENTS or braces > MOST_BRACES:
        raise TooLarge("too many statements or open braces")
    return many, braces


def size_of(statements, sizes):
    """How many statements there are between braces, and how many braces are open at most, these among them."""
    many, braces = len(statements), 1
    for statement in statements:
        for inner_many, inner_braces in inner_sizes(statement, sizes):
            many = many + inner_many
            braces = max(braces, inner_braces)
    return many, braces


def inner_sizes(statement, sizes):
    """The sizes of what a statement has, or puts, between the braces around it."""
    if statement[0] == DO:
        # the part's own braces are the ones around the call
        return [sizes[statement[1]]]
    if statement[0] != IF:
        return []
    sides = [size_of(side, sizes) for side in statement[2:]]
    return [(many, braces + 1) for many, braces in sides]


def renamed(row, names):
    """The row with the texts that names of a part stand for."""
    return tuple([item if isinstance(item, str) else (names.get(item[0], item[0]),) for item in row])


def without_calls(statements, parts, names):
    """The statements with those of parts, a dict by their names, in the places of the calls."""
    found = []
    for statement in statements:
        kind = statement[0]
        if kind == ROW:
            found.append((ROW, names.get(statement[1], statement[1]), renamed(statement[2], names)))
        elif kind == IF:
            sides = [without_calls(side, parts, names) for side in statement[2:]]
            found.append((IF, statement[1], sides[0], sides[1]))
        elif kind == DO:
            own, inner = parts[statement[1]]
            found.extend(list(without_calls(inner, parts, names_for_call(own, statement[2], names))))
        else:
            found.append(statement)
    return tuple(found)


def names_for_call(own, given, names):
    """The dict of the texts that a part's own names stand for in a call, that itself stands where names do."""
    return {name: names.get(told, told) for name, told in zip(own, given)}


def parts_called(statements):
    """The list of the parts that statements call, themselves."""
    found = []
    for statement in statements:
        if statement[0] == DO:
            found.append(statement[1])
        elif statement[0] == IF:
            found.extend(parts_called(statement[2]) + parts_called(statement[3]))
    return found


def counters_asked(statements):
    """The list of the counters that guards ask, or statements that set another counter."""
    found = []
    for statement in statements:
        if statement[0] == SUM and isinstance(statement[2], str) and statement[2] != statement[1]:
            found.append(statement[2])
        elif statement[0] == IF:
            found.extend(asked_by(statement[1]) + counters_asked(statement[2]) + counters_asked(statement[3]))
    return found


def without_counters(statements, counters):
    """The statements without those that set one of these counters."""
    found = []
    for statement in statements:
        if statement[0] == IF:
            sides = [without_counters(side, counters) for side in statement[2:]]
            found.append((IF, statement[1], sides[0], sides[1]))
        elif statement[0] != SUM or statement[1] not in counters:
            found.append(statement)
    return tuple(found)
