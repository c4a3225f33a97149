"""Writing the text of a script."""

from passtexts.guards import TRUE, written_guard
from passtexts.scripts import check_script
from passtexts.spelling import quoted, written_items
from passtexts.statements import DO, IF, ROW, SUM

INDENT = "  "


def write_script(script):
    """The text of a script."""
    check_script(script)
    lines = ["letters " + script.letters + ";"]
    for name in sorted(script.counters):
        lines.append(f"counter {name} {script.counters[name]};")
    for name in sorted(script.texts):
        first = script.texts[name]
        lines.append("text " + name + (" " + quoted(first) if first else "") + ";")
    for name, own, statements in script.parts:
        put_block(lines, "", "part " + name + "(" + ", ".join(own) + ")", statements)
        lines.append("}")
    for letters, guard, statements in script.rules:
        put_block(lines, "", "on " + written_letters(letters, script.letters) + written_when(guard), statements)
        lines.append("}")
    for guard, row in script.ends:
        lines.append("end" + written_when(guard) + ":" + (" none" if row is None else written_items(row)) + ";")
    return "".join([line + "\n" for line in lines])


def written_letters(letters, every):
    """The letters of a rule."""
    if letters == every:
        return "any"
    # these letters in their order would be read as all letters
    return "nya" if letters == "any" else letters


def written_when(guard):
    """The guard of a rule or an end, with its word, and a blank ahead of it."""
    return "" if guard == TRUE else " when " + written_guard(guard)


def put_block(lines, indent, head, statements):
    """Puts the lines of a head and of the statements in its braces behind others, but for the last brace."""
    lines.append(indent + head + " {")
    for statement in statements:
        put_statement(lines, indent + INDENT, statement)


def put_statement(lines, indent, statement):
    """Puts the lines of a statement behind others."""
    if statement[0] != IF:
        lines.append(indent + written_statement(statement) + ";")
        return
    put_block(lines, indent, "if " + written_guard(statement[1]), statement[2])
    if statement[3]:
        put_block(lines, indent, "} else", statement[3])
    lines.append(indent + "}")


def written_statement(statement):
    """The text of a statement that is no if, without its last sign."""
    kind = statement[0]
    if kind == ROW:
        return statement[1] + " =" + written_items(statement[2])
    if kind == SUM:
        return f"{statement[1]} = {statement[2]}" + written_more(statement[3])
    if kind == DO:
        return "do " + statement[1] + "(" + ", ".join(statement[2]) + ")"
    return "stop"


def written_more(more):
    """The number that is added, or taken away, with a blank ahead of it, nothing for 0."""
    if more == 0:
        return ""
    return f" + {more}" if more > 0 else f" - {-more}"
