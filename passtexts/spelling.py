"""How words, numbers, texts and rows are spelled in the texts of programs and scripts."""

from passtexts.values import SIGNS, is_made_of

FIGURES = "0123456789"
QUOTE = '"'
GREATEST = 299


def end_of_word(line, place):
    """The place behind the small letters and figures that stand in a line from a place on."""
    while place < len(line) and line[place] in SIGNS:
        place = place + 1
    return place


def number_told(word):
    """The number from 0 to 299 that a word tells without a zero in front, None if it tells none."""
    if not is_made_of(word, FIGURES) or not 1 <= len(word) <= 3 or (word[0] == "0" and len(word) > 1):
        return None
    number = int(word)
    return number if number <= GREATEST else None


def quoted(text):
    """The text in quotes."""
    return QUOTE + text + QUOTE


def written_items(row):
    """The items of a row, with a blank ahead of each."""
    return "".join([" " + (quoted(item) if isinstance(item, str) else item[0]) for item in row])
