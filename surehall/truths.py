"""Valuations: the atoms of a form, what makes it False, and a row of deeds for a form that nothing makes False."""

from surehall.errors import TooLarge, Unfit
from surehall.words import NO

MOST_REFUTED = 8
MOST_DERIVED = 4


def atoms(form):
    found = {}
    gather(form, found)
    return list(found)


def gather(form, found):
    if form[0] == "if":
        gather(form[1], found)
        gather(form[2], found)
    elif form[0] != "no":
        found[form] = True


def true_under(form, values):
    if form[0] == "no":
        return False
    if form[0] == "if":
        return not true_under(form[1], values) or true_under(form[2], values)
    return values[form]


def refuter(form):
    found = atoms(form)
    if len(found) > MOST_REFUTED:
        raise TooLarge("the form has too many atoms to be refuted")
    return first_refuter(form, found, [])


def first_refuter(form, found, answers):
    if len(answers) == len(found):
        return None if true_under(form, dict(zip(found, answers))) else answers
    for answer in (False, True):
        refuting = first_refuter(form, found, answers + [answer])
        if refuting is not None:
            return refuting
    return None


class Row:
    def __init__(self):
        self.deeds = []
        self.places = {}

    def add(self, deed):
        self.deeds.append(deed)
        return len(self.deeds) - 1

    # One deed is enough for each form that is assumed: a seal may be given to many steps.
    def assume(self, form):
        if form not in self.places:
            self.places[form] = self.add(("assume", form))
        return self.places[form]


# The row assumes what would all be so if the form were not: its premises, and that its goal is not so. Under each
# valuation one of these is False and comes to `no`; then the atoms are taken out, one by one. Each form on the way is a
# part of the given one, or says that a lesser part is not so: none is larger, so the hall can seal them all.
def derived(form):
    found = atoms(form)
    if len(found) > MOST_DERIVED:
        raise TooLarge("the form has too many atoms to be derived")
    if refuter(form) is not None:
        raise Unfit("the form has a refuter")
    premises = premises_of(form)
    goal = goal_of(form)
    against = premises if goal == NO else premises + [("if", goal, NO)]
    row = Row()
    place = clash_of(row, against, found, {})
    if goal != NO:
        place = row.add(("clash", place, goal))
    for premise in reversed(premises):
        place = row.add(("drop", place, premise))
    return row.deeds


def premises_of(form):
    premises = []
    while form[0] == "if":
        premises.append(form[1])
        form = form[2]
    return premises


def goal_of(form):
    while form[0] == "if":
        form = form[2]
    return form


# Answers the place of a seal of `no`, under no more than the forms and what the values say of their atoms.
def clash_of(row, forms, found, values):
    if len(values) == len(found):
        failing = [form for form in forms if not true_under(form, values)]
        return refuted(row, row.assume(failing[0]), failing[0], values)
    atom = found[len(values)]
    where_true = clash_of(row, forms, found, with_value(values, atom, True))
    where_false = clash_of(row, forms, found, with_value(values, atom, False))
    not_so = row.add(("drop", where_true, atom))
    so = row.add(("clash", where_false, atom))
    return row.add(("apply", not_so, so))


def with_value(values, atom, answer):
    longer = dict(values)
    longer[atom] = answer
    return longer


# The form is True: answers the place of a seal of it, under no more than what the values say of their atoms.
def proved(row, form, values):
    if form[0] != "if":
        return row.assume(form)
    if true_under(form[2], values):
        return row.add(("drop", proved(row, form[2], values), form[1]))
    place = refuted(row, row.assume(form[1]), form[1], values)
    if form[2] != NO:
        place = row.add(("clash", place, form[2]))
    return row.add(("drop", place, form[1]))


# The form is False, though the seal at the place concludes it: answers the place of a seal of `no`.
def refuted(row, place, form, values):
    if form[0] == "no":
        return place
    if form[0] == "if":
        second = row.add(("apply", place, proved(row, form[1], values)))
        return refuted(row, second, form[2], values)
    return row.add(("apply", row.assume(("if", form, NO)), place))
