"""Short ways to make terms and forms for the tests."""

NO = ("no",)


def var(number):
    return ("var", number)


def fun(name, *parts):
    return ("fun", name, parts)


def rel(name, *parts):
    return ("rel", name, parts)


def same(a, b):
    return ("same", a, b)


def cond(x, y):
    return ("if", x, y)


def every(form, times=1):
    for _ in range(times):
        form = ("all", form)
    return form


def deep_term(depth, inmost):
    """A term as deep as told, with inmost (one deep) at its bottom."""
    term = inmost
    for _ in range(depth - 1):
        term = fun("f", term)
    return term


def deep_form(depth, inmost):
    """A form as deep as told, of `if`s alone, with inmost (one deep) at its bottom."""
    form = inmost
    for _ in range(depth - 1):
        form = cond(NO, form)
    return form


def small_terms():
    """A handful of terms with small free numbers, with and without parts."""
    return [
        var(0), var(1), var(2), fun("c"), fun("f", var(0)), fun("f", var(1)),
        fun("g", var(0), var(2)), fun("g", fun("f", var(1)), fun("c")),
    ]


def small_forms():
    """Every form of a few makes, with `all` up to three times around each."""
    terms = small_terms() + [var(3)]
    flat = [NO, rel("p")]
    flat += [rel("q", term) for term in terms]
    flat += [same(a, b) for a in terms[:3] for b in terms]
    flat += [cond(rel("q", var(n)), every(rel("r", var(0), var(m)))) for n in range(3) for m in range(4)]
    flat += [cond(every(every(rel("r", var(n), var(1)))), rel("q", var(m))) for n in range(4) for m in range(3)]
    return [every(form, times) for times in range(4) for form in flat]
