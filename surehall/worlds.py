"""Worlds: what names mean among a few things, and which forms hold there."""

from surehall.errors import NoThing


class World:
    # What is told is kept by the name and the row: the row's length sets apart names with another count of parts.
    def __init__(self, things):
        self.size = things
        self.meanings = {}
        self.facts = {}

    def refuse_strangers(self, things):
        for thing in things:
            if thing < 0 or thing >= self.size:
                raise NoThing(f"the world has no thing {thing}")

    def means(self, name, parts, thing):
        self.refuse_strangers(parts)
        self.refuse_strangers([thing])
        self.meanings[(name, tuple(parts))] = thing

    def so(self, name, parts, answer=True):
        self.refuse_strangers(parts)
        self.facts[(name, tuple(parts))] = answer

    def value(self, term, things):
        self.refuse_strangers(things)
        return self.thing_of(term, things)

    def holds(self, form, things):
        self.refuse_strangers(things)
        return self.holds_by(form, things)

    def thing_of(self, term, things):
        if term[0] == "var":
            return things[term[1]] if term[1] < len(things) else 0
        return self.meanings.get((term[1], self.row_of(term[2], things)), 0)

    def row_of(self, terms, things):
        row = []
        for term in terms:
            row.append(self.thing_of(term, things))
        return tuple(row)

    # The list is looked at once, in holds: a list that grows by the world's own things needs no second look.
    def holds_by(self, form, things):
        kind = form[0]
        if kind == "rel":
            return self.facts.get((form[1], self.row_of(form[2], things)), False)
        if kind == "same":
            return self.thing_of(form[1], things) == self.thing_of(form[2], things)
        if kind == "if":
            return not self.holds_by(form[1], things) or self.holds_by(form[2], things)
        if kind == "all":
            return self.holds_of_each(form[1], things)
        return False

    def holds_of_each(self, form, things):
        for thing in range(self.size):
            if not self.holds_by(form, [thing] + things):
                return False
        return True
