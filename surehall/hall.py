"""The hall: conclusions sealed step by step, under assumptions and on axioms."""

from surehall.errors import NoSeal, TooLarge, Unfit
from surehall.words import NO, alls, closed, deep, knots, lowered, put

MOST_ASSUMPTIONS = 64
MOST_KNOTS = 300
MOST_DEEP = 60
MOST_ALLS = 6


class Seal:
    # Tuples, so that nothing turns a seal once it is made.
    def __init__(self, assumptions, conclusion, grounds, givens):
        self.assumptions = tuple(assumptions)
        self.conclusion = conclusion
        self.grounds = tuple(grounds)
        self.givens = tuple(givens)


def want(fits, words):
    if not fits:
        raise Unfit(words)


def refuse_large(assumptions, conclusion):
    if len(assumptions) > MOST_ASSUMPTIONS:
        raise TooLarge("the seal would have too many assumptions")
    if knots(conclusion) > MOST_KNOTS:
        raise TooLarge("the conclusion would have too many knots")
    if deep(conclusion) > MOST_DEEP:
        raise TooLarge("the conclusion would be too deep")
    if alls(conclusion) > MOST_ALLS:
        raise TooLarge("the conclusion would have too many alls within one another")


def without(forms, left_out):
    return [form for form in forms if form != left_out]


def together(first, second):
    return list(first) + [form for form in second if form not in first]


class Hall:
    def __init__(self):
        self.seals = []
        self.stated = []

    def seal(self, number):
        # Python would count a number below nought from the end.
        if number < 0 or number >= len(self.seals):
            raise NoSeal(f"the hall has no seal {number}")
        return self.seals[number]

    def grounds_of(self, givens):
        found = []
        for number in givens:
            found.extend(self.seals[number].grounds)
        return sorted(set(found))

    def keep(self, assumptions, conclusion, grounds, givens):
        refuse_large(assumptions, conclusion)
        self.seals.append(Seal(assumptions, conclusion, grounds, givens))
        return len(self.seals) - 1

    def made(self, assumptions, conclusion, givens):
        return self.keep(assumptions, conclusion, self.grounds_of(givens), givens)

    def assume(self, form):
        return self.made([form], form, [])

    def drop(self, number, form):
        seal = self.seal(number)
        return self.made(without(seal.assumptions, form), ("if", form, seal.conclusion), [number])

    def apply(self, number, other):
        first = self.seal(number)
        second = self.seal(other)
        conclusion = first.conclusion
        want(conclusion[0] == "if", "the first seal concludes no if")
        want(conclusion[1] == second.conclusion, "the other seal does not conclude what the first one asks for")
        return self.made(together(first.assumptions, second.assumptions), conclusion[2], [number, other])

    def clash(self, number, form):
        seal = self.seal(number)
        want(seal.conclusion == NO, "the seal does not conclude no")
        return self.made(without(seal.assumptions, ("if", form, NO)), form, [number])

    def every(self, number):
        seal = self.seal(number)
        # An assumption in which the free number nought stands is refused there with Unfit, as it must be here.
        assumptions = [lowered(form) for form in seal.assumptions]
        return self.made(assumptions, ("all", seal.conclusion), [number])

    def one(self, number, term):
        seal = self.seal(number)
        want(seal.conclusion[0] == "all", "the seal concludes no all")
        return self.made(seal.assumptions, put(seal.conclusion[1], term), [number])

    def alike(self, term):
        return self.made([], ("same", term, term), [])

    def swap(self, number, other, form):
        first = self.seal(number)
        second = self.seal(other)
        equation = first.conclusion
        want(equation[0] == "same", "the first seal concludes no same")
        want(put(form, equation[1]) == second.conclusion, "the other seal does not conclude the term put into the form")
        return self.made(together(first.assumptions, second.assumptions), put(form, equation[2]), [number, other])

    def more(self, number, form):
        seal = self.seal(number)
        return self.made(together(seal.assumptions, [form]), seal.conclusion, [number])

    def axiom(self, form):
        want(closed(form), "the form has a free var")
        number = self.keep([], form, [len(self.stated)], [])
        self.stated.append(form)
        return number

    def many(self):
        return len(self.seals)

    def axioms(self):
        return list(self.stated)

    def told(self, number):
        seal = self.seal(number)
        return (list(seal.assumptions), seal.conclusion)

    def bases(self, number):
        return list(self.seal(number).grounds)

    def stood(self, number):
        self.seal(number)
        reached = {number: True}
        # Downward, since a seal is given to later ones alone: each is gone through after all that lead to it.
        for place in range(number, -1, -1):
            if place in reached:
                for given in self.seals[place].givens:
                    reached[given] = True
        return sorted(reached)
