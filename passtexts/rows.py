"""Rows: tuples of texts and of tuples of one register."""


def row_of(items):
    """The row of these items: texts side by side put together, empty ones left out."""
    row = []
    texts = []
    for item in items:
        if isinstance(item, str):
            texts.append(item)
        else:
            if texts:
                put_text(row, texts)
                texts = []
            row.append(item)
    if texts:
        put_text(row, texts)
    return tuple(row)


def put_text(row, texts):
    """Puts these texts behind a row, as one, if they have signs."""
    text = "".join(texts)
    if text:
        row.append(text)


def text_of(row, held):
    """The text of a row, for what the registers hold."""
    return "".join([item if isinstance(item, str) else held[item[0]] for item in row])


def filled(row, rows):
    """The row with the rows of registers in the places of these."""
    items = []
    for item in row:
        if isinstance(item, str):
            items.append(item)
        else:
            items.extend(rows[item[0]])
    return row_of(items)


def names_in(row):
    """The registers of a row, in their order."""
    return [item[0] for item in row if not isinstance(item, str)]


def signs_in(row):
    """How many signs the texts in a row have."""
    return sum([len(item) for item in row if isinstance(item, str)])


def names_in_rows(rows, names):
    """The registers in the rows of these registers."""
    return [name for told in names for name in names_in(rows[told])]


def signs_in_rows(rows, names):
    """How many signs the texts in the rows of these registers have."""
    return sum([signs_in(rows[told]) for told in names])


def ascending(names):
    """The ascending tuple of these names, each once."""
    return tuple(sorted(set(names)))


def first_double(names):
    """The first name that stands there a second time, None without one."""
    met = set()
    for name in names:
        if name in met:
            return name
        met.add(name)
    return None
