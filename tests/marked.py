"""Texts with a sign @ ahead of the piece that is refused."""


def marked(text):
    """The text without its sign @, and the line and column where that stood, both from 1 on."""
    ahead, sign, rest = text.partition("@")
    assert sign and "@" not in rest
    return ahead + rest, (ahead.count("\n") + 1, len(ahead) - ahead.rfind("\n"))
