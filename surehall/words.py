"""Terms and forms: their knots, their free numbers, moving them and putting a term into a form."""

from surehall.errors import Unfit

NO = ("no",)


def parts_of(word):
    if word[0] == "var":
        return ()
    if word[0] in ("fun", "rel"):
        return word[2]
    return word[1:]


def with_parts(word, parts):
    if word[0] in ("fun", "rel"):
        return (word[0], word[1], tuple(parts))
    return (word[0],) + tuple(parts)


def depth_within(word, depth):
    return depth + 1 if word[0] == "all" else depth


def knots(word):
    total = 1
    for part in parts_of(word):
        total += knots(part)
    return total


def deep(word):
    greatest = 0
    for part in parts_of(word):
        greatest = max(greatest, deep(part))
    return greatest + 1


def alls(word):
    greatest = 0
    for part in parts_of(word):
        greatest = max(greatest, alls(part))
    return depth_within(word, greatest)


# Each var is handed to change with its depth, the bound ones too: what becomes of it hangs on both.
def changed(word, depth, change):
    if word[0] == "var":
        return change(word[1], depth)
    parts = []
    for part in parts_of(word):
        parts.append(changed(part, depth_within(word, depth), change))
    return with_parts(word, parts)


def raised(term, by):
    return changed(term, 0, lambda number, depth: ("var", number + by))


def moved(form, by):
    return changed(form, 0, lambda number, depth: ("var", number + by if number >= depth else number))


def lifted(form):
    return moved(form, 1)


def free_numbers(word, depth):
    if word[0] == "var":
        return [word[1] - depth] if word[1] >= depth else []
    found = []
    for part in parts_of(word):
        found.extend(free_numbers(part, depth_within(word, depth)))
    return found


def stands(form, number):
    return number in free_numbers(form, 0)


def closed(form):
    return free_numbers(form, 0) == []


def put(form, term):
    def replaced(number, depth):
        if number == depth:
            # The term's own numbers must not fall to the `all`s that it comes to stand in.
            return raised(term, depth)
        return ("var", number - 1 if number > depth else number)

    return changed(form, 0, replaced)


def lowered(form):
    if stands(form, 0):
        raise Unfit("a form in which the free number nought stands cannot be lowered")
    return moved(form, -1)
