"""Short ways to make terms and forms for the tests."""

NO = ("no",)


def var(number):
    return ("var", number)


def fun(name, *parts):
    return ("fun", name, parts)


def rel(name, *parts):
    return ("rel", name, parts)


def same(a, b):
    return ("same", a, b)


def cond(x, y):
    return ("if", x, y)


def negated(form):
    return cond(form, NO)


def every(form, times=1):
    for _ in range(times):
        form = ("all", form)
    return form


def deep_term(depth, inmost):
    """A term as deep as told, with inmost (one deep) at its bottom."""
    term = inmost
    for _ in range(depth - 1):
        term = fun("f", term)
    return term


def deep_form(depth, inmost):
    """A form as deep as told, of `if`s alone, with inmost (one deep) at its bottom."""
    form = inmost
    for _ in range(depth - 1):
        form = cond(NO, form)
    return form


def wide_term(knots):
    """A term without vars that has just so many knots and is only a few deep."""
    if knots < 3:
        return fun("c") if knots == 1 else fun("f", fun("c"))
    half = (knots - 1) // 2
    return fun("g", wide_term(half), wide_term(knots - 1 - half))


def wide_form(knots):
    """A form without vars and `all`s that has just so many knots and is only a few deep."""
    if knots < 3:
        return NO if knots == 1 else rel("q", fun("c"))
    half = (knots - 1) // 2
    return cond(wide_form(half), wide_form(knots - 1 - half))


def numbered(first, behind):
    """Forms without vars, no two equal: one for each number from first on, below behind."""
    letters = "abcdefghij"
    return [rel("n" + "".join(letters[int(figure)] for figure in str(number))) for number in range(first, behind)]


def whole(hall):
    """All that a hall tells."""
    numbers = range(hall.many())
    return [hall.many(), hall.axioms()] + [(hall.told(k), hall.bases(k), hall.stood(k)) for k in numbers]


def small_terms():
    """A handful of terms with small free numbers, with and without parts."""
    return [
        var(0), var(1), var(2), fun("c"), fun("f", var(0)), fun("f", var(1)),
        fun("g", var(0), var(2)), fun("g", fun("f", var(1)), fun("c")),
    ]


def small_forms():
    """Every form of a few makes, with `all` up to three times around each."""
    terms = small_terms() + [var(3)]
    flat = [NO, rel("p")]
    flat += [rel("q", term) for term in terms]
    flat += [same(a, b) for a in terms[:3] for b in terms]
    flat += [cond(rel("q", var(n)), every(rel("r", var(0), var(m)))) for n in range(3) for m in range(4)]
    flat += [cond(every(every(rel("r", var(n), var(1)))), rel("q", var(m))) for n in range(4) for m in range(3)]
    return [every(form, times) for times in range(4) for form in flat]
