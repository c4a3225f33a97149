"""Guards of scripts, as tuples: what they are made of, whether they hold, and how they are written.

A guard is TRUE, a pair of "not" and a guard, a pair of "and" or "or" and a tuple of guards, of which the first one is
of another kind, or a triple of a sign that compares and of two things: counters, by their names, or numbers.
"""

from passtexts.spelling import number_told

TRUE = ("true",)
COMPARING = ("=", "!=", "<", "<=", ">", ">=")
MOST_OPEN = 8


def read_guard(pieces, counters):
    """The guard that stands next among the pieces of a text, with these counters."""
    return read_any(pieces, counters, 0)


def read_any(pieces, counters, opened):
    """A guard, perhaps of several with or between them, where so many nots and brackets are open."""
    guards = [read_all(pieces, counters, opened)]
    while pieces.ahead() == "or":
        pieces.pass_by()
        guards.append(read_all(pieces, counters, opened))
    return chained("or", guards)


def read_all(pieces, counters, opened):
    """A guard, perhaps of several with and between them."""
    guards = [read_single(pieces, counters, opened)]
    while pieces.ahead() == "and":
        pieces.pass_by()
        guards.append(read_single(pieces, counters, opened))
    return chained("and", guards)


def chained(word, guards):
    """The guard of several ones with a word between them."""
    if len(guards) == 1:
        return guards[0]
    first = guards[0]
    # several of them bind from the left, so one at the left of the same kind is the same without brackets
    ahead = first[1] if first[0] == word else (first,)
    return (word, ahead + tuple(guards[1:]))


def read_single(pieces, counters, opened):
    """A guard without and and or, but for those in brackets."""
    piece = pieces.ahead()
    if piece in ("not", "(") and opened == MOST_OPEN:
        pieces.refuse()
    if piece == "not":
        pieces.pass_by()
        return ("not", read_single(pieces, counters, opened + 1))
    if piece == "(":
        pieces.pass_by()
        guard = read_any(pieces, counters, opened + 1)
        pieces.expect(")")
        return guard
    if piece == "true":
        pieces.pass_by()
        return TRUE
    left = read_thing(pieces, counters)
    sign = pieces.ahead()
    if sign not in COMPARING:
        pieces.refuse()
    pieces.pass_by()
    return (sign, left, read_thing(pieces, counters))


def read_thing(pieces, counters):
    """A counter, by its name, or a number."""
    piece = pieces.ahead()
    thing = piece if piece in counters else number_told(piece)
    if thing is None:
        pieces.refuse()
    pieces.pass_by()
    return thing


def value_of(thing, values):
    """The value of a counter or a number, for the values of counters."""
    return values[thing] if isinstance(thing, str) else thing


def holds(guard, values):
    """Whether a guard is true for these values of counters."""
    word = guard[0]
    if word == "true":
        return True
    if word == "not":
        return not holds(guard[1], values)
    if word == "and":
        return all([holds(part, values) for part in guard[1]])
    if word == "or":
        return any([holds(part, values) for part in guard[1]])
    return compares(word, value_of(guard[1], values), value_of(guard[2], values))


def compares(sign, left, right):
    """Whether two numbers are as a sign between them tells."""
    if sign == "=":
        return left == right
    if sign == "!=":
        return left != right
    if sign == "<":
        return left < right
    if sign == "<=":
        return left <= right
    if sign == ">":
        return left > right
    return left >= right


def asked_by(guard):
    """The list of the counters that a guard asks."""
    word = guard[0]
    if word == "true":
        return []
    if word == "not":
        return asked_by(guard[1])
    if word in ("and", "or"):
        return [name for part in guard[1] for name in asked_by(part)]
    return [thing for thing in guard[1:] if isinstance(thing, str)]


def written_guard(guard):
    """The text of a guard, with as few brackets as read the same."""
    word = guard[0]
    if word == "true":
        return word
    if word == "not":
        return "not " + in_brackets(guard[1], ("and", "or"))
    if word == "and":
        first = in_brackets(guard[1][0], ("or",))
        return " and ".join([first] + [in_brackets(part, ("and", "or")) for part in guard[1][1:]])
    if word == "or":
        return " or ".join([written_guard(guard[1][0])] + [in_brackets(part, ("or",)) for part in guard[1][1:]])
    return f"{guard[1]} {word} {guard[2]}"


def in_brackets(guard, words):
    """The text of a guard, in brackets if it is one of these words."""
    text = written_guard(guard)
    return "(" + text + ")" if guard[0] in words else text
