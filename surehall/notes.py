"""Notes: how terms and forms are written, and how a text is read back."""

from surehall.errors import NoWord

LETTERS = "abcdefghijklmnopqrstuvwxyz"
FIGURES = "0123456789"
MOST_LETTERS = 12
MOST_FIGURES = 3
MOST_PARTS = 3


def shown(form):
    kind = form[0]
    if kind == "no":
        return "!"
    if kind == "rel":
        return form[1] + "[" + row_shown(form[2]) + "]"
    if kind == "same":
        return "(" + term_shown(form[1]) + " = " + term_shown(form[2]) + ")"
    if kind == "if":
        return "(" + shown(form[1]) + " > " + shown(form[2]) + ")"
    return "*" + shown(form[1])


def term_shown(term):
    if term[0] == "var":
        return "#" + str(term[1])
    return term[1] + "(" + row_shown(term[2]) + ")"


def row_shown(terms):
    written = []
    for term in terms:
        written.append(term_shown(term))
    return " ".join(written)


def read(text):
    reader = Reader(text)
    form = reader.read_form()
    if reader.ahead() != "":
        raise NoWord("the text goes on behind the form")
    return form


class Reader:
    def __init__(self, text):
        self.text = text
        self.place = 0

    # Nothing is ahead at the text's end, and no sign of the notes is equal to it.
    def ahead(self):
        return self.text[self.place:self.place + 1]

    def pass_over(self, signs):
        if not self.text.startswith(signs, self.place):
            place = self.place
            raise NoWord(f"{signs!r} is missing at place {place}")
        self.place += len(signs)

    def end_of_run(self, signs):
        end = self.place
        while end < len(self.text) and self.text[end] in signs:
            end += 1
        return end

    def read_run(self, signs):
        start = self.place
        self.place = self.end_of_run(signs)
        return self.text[start:self.place]

    def read_name(self):
        name = self.read_run(LETTERS)
        if name == "" or len(name) > MOST_LETTERS:
            raise NoWord(f"{name!r} is no name")
        return name

    def read_number(self):
        figures = self.read_run(FIGURES)
        if figures == "" or len(figures) > MOST_FIGURES or (figures[0] == "0" and figures != "0"):
            raise NoWord(f"{figures!r} is no number")
        return int(figures)

    def read_row(self, close):
        parts = []
        while self.ahead() != close:
            if len(parts) > 0:
                self.pass_over(" ")
            parts.append(self.read_term())
        self.pass_over(close)
        if len(parts) > MOST_PARTS:
            raise NoWord("the row has too many parts")
        return tuple(parts)

    def read_term(self):
        if self.ahead() == "#":
            self.pass_over("#")
            return ("var", self.read_number())
        name = self.read_name()
        self.pass_over("(")
        return ("fun", name, self.read_row(")"))

    def read_form(self):
        sign = self.ahead()
        if sign == "!":
            self.pass_over("!")
            return ("no",)
        if sign == "*":
            self.pass_over("*")
            return ("all", self.read_form())
        if sign == "(":
            return self.read_pair()
        name = self.read_name()
        self.pass_over("[")
        return ("rel", name, self.read_row("]"))

    def read_pair(self):
        self.pass_over("(")
        if self.term_is_ahead():
            first = self.read_term()
            self.pass_over(" = ")
            pair = ("same", first, self.read_term())
        else:
            first = self.read_form()
            self.pass_over(" > ")
            pair = ("if", first, self.read_form())
        self.pass_over(")")
        return pair

    # A term and a form may both begin with a name: only the sign behind it tells them apart.
    def term_is_ahead(self):
        end = self.end_of_run(LETTERS)
        if end == self.place:
            return self.ahead() == "#"
        return self.text[end:end + 1] == "("
