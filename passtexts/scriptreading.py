"""Reading the text of a script, piece by piece."""

from passtexts.guards import TRUE, read_guard, read_thing
from passtexts.parts import are_letters
from passtexts.scriptpieces import ScriptPieces, is_quoted
from passtexts.spelling import GREATEST, number_told
from passtexts.statements import DO, IF, MOST_BRACES, ROW, STOP, SUM
from passtexts.values import is_word

RESERVED = ("letters", "counter", "text", "part", "on", "when", "any", "end", "none", "if", "else", "do", "stop", "and",
            "or", "not", "true")
MOST_COUNTERS = 6
MOST_TEXTS = 60
MOST_PARTS = 20
MOST_RULES = 60
MOST_ENDS = 60


class Reading:
    """Reads the text of a script: letters, counters, texts, parts, rules and ends are what it has told so far."""

    def __init__(self, text):
        self.pieces = ScriptPieces(text)
        self.letters = ""
        self.counters = {}
        self.texts = {}
        self.parts = []
        self.rules = []
        self.ends = []
        # the names of counters, texts and parts, and the own ones of all parts
        self.taken = {}
        self.taken_within = {}
        # the own names of the part that is read, and those of the parts that are read already
        self.own = ()
        self.calls = {}

    def whole(self):
        """Reads all of it."""
        pieces = self.pieces
        self.read_letters()
        while pieces.ahead() in ("counter", "text"):
            if pieces.ahead() == "counter":
                self.read_counter()
            else:
                self.read_text()
        while pieces.ahead() == "part":
            self.read_part()
        while pieces.ahead() == "on":
            self.read_rule()
        while pieces.ahead() == "end":
            self.read_end()
        if pieces.ahead() != "":
            pieces.refuse()
        return self

    def begin(self, word, found, most):
        """Goes behind the word that begins one more of these, if there may be one more."""
        if len(found) == most:
            self.pieces.refuse()
        self.pieces.expect(word)

    def read_letters(self):
        """Takes the letters."""
        self.pieces.expect("letters")
        letters = self.pieces.ahead()
        if not are_letters(letters):
            self.pieces.refuse()
        self.letters = "".join(sorted(letters))
        self.pieces.pass_by()
        self.pieces.expect(";")

    def read_counter(self):
        """Takes a counter and its most."""
        self.begin("counter", self.counters, MOST_COUNTERS)
        name = self.read_new_name({})
        self.counters[name] = self.read_number()
        self.taken[name] = True
        self.pieces.expect(";")

    def read_text(self):
        """Takes a text and its first content."""
        self.begin("text", self.texts, MOST_TEXTS)
        name = self.read_new_name({})
        self.texts[name] = self.read_quotes() if is_quoted(self.pieces.ahead()) else ""
        self.taken[name] = True
        self.pieces.expect(";")

    def read_part(self):
        """Takes a part."""
        self.begin("part", self.parts, MOST_PARTS)
        name = self.read_new_name(self.taken_within)
        self.taken[name] = True
        self.own = self.read_own_names()
        statements = self.read_block(0)
        self.parts.append((name, self.own, statements))
        self.calls[name] = self.own
        self.own = ()

    def read_rule(self):
        """Takes a rule."""
        self.begin("on", self.rules, MOST_RULES)
        letters = self.letters if self.pieces.ahead() == "any" else self.pieces.ahead()
        if not are_letters(letters) or not all([letter in self.letters for letter in letters]):
            self.pieces.refuse()
        self.pieces.pass_by()
        guard = self.read_when()
        self.rules.append(("".join(sorted(letters)), guard, self.read_block(0)))

    def read_end(self):
        """Takes an end; its row is None, if it refuses the text."""
        self.begin("end", self.ends, MOST_ENDS)
        guard = self.read_when()
        self.pieces.expect(":")
        row = None
        if self.pieces.ahead() == "none":
            self.pieces.pass_by()
        else:
            row = self.read_items()
        self.pieces.expect(";")
        self.ends.append((guard, row))

    def read_when(self):
        """The guard of a rule or an end, TRUE without one."""
        if self.pieces.ahead() != "when":
            return TRUE
        self.pieces.pass_by()
        return read_guard(self.pieces, self.counters)

    def read_block(self, opened):
        """The statements between the next braces, where so many are open."""
        if opened == MOST_BRACES:
            self.pieces.refuse()
        self.pieces.expect("{")
        statements = []
        while self.pieces.ahead() != "}":
            statements.append(self.read_statement(opened + 1))
        self.pieces.pass_by()
        return tuple(statements)

    def read_statement(self, opened):
        """The next statement, where so many braces are open."""
        piece = self.pieces.ahead()
        if piece == "if":
            return self.read_if(opened)
        if not (piece in ("do", "stop") or piece in self.counters or self.is_text(piece)):
            self.pieces.refuse()
        self.pieces.pass_by()
        statement = (STOP,)
        if piece == "do":
            statement = self.read_call()
        elif piece in self.counters:
            statement = self.read_sum(piece)
        elif piece != "stop":
            self.pieces.expect("=")
            statement = (ROW, piece, self.read_items())
        self.pieces.expect(";")
        return statement

    def read_if(self, opened):
        """The next if, with an empty other side, if it has none."""
        self.pieces.expect("if")
        guard = read_guard(self.pieces, self.counters)
        then = self.read_block(opened)
        other = ()
        if self.pieces.ahead() == "else":
            self.pieces.pass_by()
            other = self.read_block(opened)
        return (IF, guard, then, other)

    def read_call(self):
        """A call, behind its first word."""
        part = self.pieces.ahead()
        if part not in self.calls:
            self.pieces.refuse()
        self.pieces.pass_by()
        self.pieces.expect("(")
        given = []
        for place in range(len(self.calls[part])):
            if place > 0:
                self.pieces.expect(",")
            given.append(self.read_text_name())
        self.pieces.expect(")")
        return (DO, part, tuple(given))

    def read_sum(self, counter):
        """What sets a counter, behind its name; the numbers added to the first thing are one number."""
        self.pieces.expect("=")
        first = read_thing(self.pieces, self.counters)
        more = 0
        while self.pieces.ahead() in ("+", "-"):
            sign = self.pieces.ahead()
            self.pieces.pass_by()
            number = self.read_number()
            more = more + number if sign == "+" else more - number
        # beyond the greatest number more makes no difference, whatever the counter is
        return (SUM, counter, first, max(-GREATEST, min(GREATEST, more)))

    def read_items(self):
        """The items of a row."""
        items = []
        while is_quoted(self.pieces.ahead()) or self.is_text(self.pieces.ahead()):
            if is_quoted(self.pieces.ahead()):
                items.append(self.read_quotes())
            else:
                items.append((self.read_text_name(),))
        return tuple(items)

    def read_own_names(self):
        """The tuple of a part's own names, in brackets."""
        own = {}
        self.pieces.expect("(")
        while self.pieces.ahead() != ")" or own:
            own[self.read_new_name(own)] = True
            if self.pieces.ahead() == ")":
                break
            self.pieces.expect(",")
        self.pieces.expect(")")
        self.taken_within.update(own)
        return tuple(own)

    def read_new_name(self, barred):
        """A name that is no word of scripts, not taken, and none of these."""
        name = self.pieces.ahead()
        if not is_word(name) or name in RESERVED or name in self.taken or name in barred:
            self.pieces.refuse()
        self.pieces.pass_by()
        return name

    def read_text_name(self):
        """The name of a text, or one of the part's own."""
        name = self.pieces.ahead()
        if not self.is_text(name):
            self.pieces.refuse()
        self.pieces.pass_by()
        return name

    def is_text(self, piece):
        """Whether it is the name of a text, or one of the part's own."""
        return piece in self.texts or piece in self.own

    def read_quotes(self):
        """The text of the quotes that stand next."""
        text = self.pieces.ahead()
        self.pieces.pass_by()
        return text[1:-1]

    def read_number(self):
        """A number."""
        number = number_told(self.pieces.ahead())
        if number is None:
            self.pieces.refuse()
        self.pieces.pass_by()
        return number
