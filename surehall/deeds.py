"""Rows of deeds: steps that speak of one another by their places in the row."""

from surehall.errors import NoSeal

# How many places stand behind a deed's name, ahead of its form or term.
PLACES = {
    "assume": 0, "drop": 1, "apply": 2, "clash": 1, "every": 1, "one": 1, "alike": 0, "swap": 2, "more": 1, "axiom": 0,
}


def played(hall, deeds):
    made = []
    for deed in deeds:
        made.append(done(hall, deed[0], given_to(deed, made)))
    return made


def given_to(deed, made):
    behind = PLACES[deed[0]] + 1
    numbers = []
    for place in deed[1:behind]:
        # Behind the seals made so far stand the deed itself and later ones, and they have no seal yet.
        if place < 0 or place >= len(made):
            raise NoSeal(f"no deed ahead has the place {place}")
        numbers.append(made[place])
    return numbers + list(deed[behind:])


def done(hall, name, given):
    if name == "assume":
        return hall.assume(given[0])
    if name == "drop":
        return hall.drop(given[0], given[1])
    if name == "apply":
        return hall.apply(given[0], given[1])
    if name == "clash":
        return hall.clash(given[0], given[1])
    if name == "every":
        return hall.every(given[0])
    if name == "one":
        return hall.one(given[0], given[1])
    if name == "alike":
        return hall.alike(given[0])
    if name == "swap":
        return hall.swap(given[0], given[1], given[2])
    if name == "more":
        return hall.more(given[0], given[1])
    return hall.axiom(given[0])
