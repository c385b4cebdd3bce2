"""What a hall refuses, in which order, and that a refused step leaves it as it was."""

import unittest

from surehall.errors import NoSeal, TooLarge, Unfit
from surehall.hall import Hall
from surehall.words import alls, deep, knots, put
from tests.making import (
    NO, cond, deep_form, deep_term, every, fun, negated, numbered, rel, same, var, whole, wide_form, wide_term,
)

P = rel("p")
Q = rel("q", var(0))
C = fun("c")
FREE_LARGE = cond(Q, wide_form(301))
TOO_LARGE = (wide_form(301), deep_form(61, NO), every(P, 7))
JUST_LARGE = (wide_form(300), deep_form(60, NO), every(P, 6))


def with_assumptions(hall, conclusion, first, behind):
    """A seal of the conclusion, under itself and then under the forms with the numbers from first on, below behind."""
    number = hall.assume(conclusion)
    for form in numbered(first, behind):
        number = hall.more(number, form)
    return number


class RefusalCase(unittest.TestCase):
    def refuses(self, hall, error, step):
        before = whole(hall)
        with self.assertRaises(error) as caught:
            step()
        self.assertIs(type(caught.exception), error)
        self.assertEqual(whole(hall), before)

    def seals(self, hall, step, conclusion):
        number = step()
        self.assertEqual(number, hall.many() - 1)
        self.assertEqual(hall.told(number)[1], conclusion)


def peopled():
    """A hall with a seal of each make that steps ask for, and the axiom P."""
    hall = Hall()
    hall.axiom(P)
    for form in (cond(P, Q), P, NO, every(Q), same(C, var(0)), rel("q", C), Q):
        hall.assume(form)
    return hall


class NoSuchSeal(RefusalCase):
    def steps(self, hall, number):
        return [
            lambda: hall.drop(number, P), lambda: hall.apply(number, 2), lambda: hall.apply(1, number),
            lambda: hall.clash(number, P), lambda: hall.every(number), lambda: hall.one(number, C),
            lambda: hall.swap(number, 6, Q), lambda: hall.swap(5, number, Q), lambda: hall.more(number, P),
            lambda: hall.apply(number, number), lambda: hall.swap(number, number, Q),
            lambda: hall.told(number), lambda: hall.bases(number), lambda: hall.stood(number),
        ]

    def test_a_number_that_is_no_seals(self):
        for number in (8, 9, 1000):
            hall = peopled()
            for step in self.steps(hall, number):
                self.refuses(hall, NoSeal, step)

    def test_a_number_below_nought(self):
        for number in (-1, -3, -8, -9, -1000):
            hall = peopled()
            for step in self.steps(hall, number):
                self.refuses(hall, NoSeal, step)

    def test_in_an_empty_hall(self):
        for number in (-1, 0, 1):
            hall = Hall()
            for step in self.steps(hall, number):
                self.refuses(hall, NoSeal, step)

    def test_the_last_number_is_a_seals(self):
        hall = peopled()
        self.assertEqual(hall.told(7), ([Q], Q))
        self.assertEqual(hall.more(7, P), 8)
        self.assertEqual(hall.told(8), ([Q, P], Q))

    def test_a_seal_of_another_hall_is_none_here(self):
        hall = Hall()
        peopled()
        hall.assume(P)
        self.refuses(hall, NoSeal, lambda: hall.told(1))


class NotFitting(RefusalCase):
    def test_apply_where_the_first_seal_has_no_if(self):
        for form in (NO, P, Q, same(C, C), every(cond(P, Q))):
            hall = Hall()
            hall.assume(form)
            hall.assume(P)
            self.refuses(hall, Unfit, lambda: hall.apply(0, 1))

    def test_apply_where_the_other_seal_has_another_form(self):
        hall = Hall()
        hall.assume(cond(Q, P))
        for form in (NO, P, rel("q", var(1)), rel("q", var(0), var(0)), rel("s", var(0)), every(Q), cond(Q, P)):
            number = hall.assume(form)
            self.refuses(hall, Unfit, lambda: hall.apply(0, number))

    def test_apply_the_wrong_way_round(self):
        hall = Hall()
        hall.assume(cond(P, Q))
        hall.assume(P)
        hall.assume(Q)
        self.refuses(hall, Unfit, lambda: hall.apply(1, 0))
        self.refuses(hall, Unfit, lambda: hall.apply(0, 2))
        self.assertEqual(hall.apply(0, 1), 3)

    def test_apply_with_one_seal_given_twice(self):
        for form in (P, cond(P, P), cond(cond(P, P), P)):
            hall = Hall()
            hall.assume(form)
            self.refuses(hall, Unfit, lambda: hall.apply(0, 0))

    def test_clash_where_the_seal_has_not_no(self):
        for form in (P, negated(P), cond(NO, NO), every(NO), same(C, C), rel("no")):
            hall = Hall()
            hall.assume(form)
            self.refuses(hall, Unfit, lambda: hall.clash(0, P))

    def test_every_where_the_free_number_nought_stands_in_an_assumption(self):
        for form in (Q, same(C, var(0)), every(rel("r", var(0), var(1))), cond(every(Q), cond(P, Q)),
                     every(rel("q", var(6)), 6)):
            hall = Hall()
            hall.assume(form)
            self.refuses(hall, Unfit, lambda: hall.every(0))

    def test_every_where_it_stands_in_the_first_a_middle_or_the_last_assumption(self):
        for place in range(3):
            forms = [P, rel("q", var(3)), NO]
            forms[place] = Q
            hall = Hall()
            number = hall.alike(var(0))
            for form in forms:
                number = hall.more(number, form)
            self.refuses(hall, Unfit, lambda: hall.every(number))

    def test_every_where_it_belongs_to_an_all_or_stands_in_the_conclusion_alone(self):
        hall = Hall()
        self.seals(hall, lambda: hall.every(hall.assume(every(Q))), every(every(Q)))
        self.seals(hall, lambda: hall.every(hall.one(0, var(0))), every(Q))

    def test_one_where_the_seal_has_no_all(self):
        for form in (NO, P, Q, cond(every(Q), P), same(C, C), rel("all", C)):
            hall = Hall()
            hall.assume(form)
            self.refuses(hall, Unfit, lambda: hall.one(0, C))

    def test_swap_where_the_first_seal_has_no_same(self):
        for form in (NO, P, rel("same", C, C), cond(same(C, C), same(C, C)), every(same(C, C))):
            hall = Hall()
            hall.assume(form)
            hall.assume(rel("q", C))
            self.refuses(hall, Unfit, lambda: hall.swap(0, 1, Q))

    def test_swap_where_the_other_seal_has_another_form(self):
        hall = Hall()
        hall.assume(same(C, fun("d")))
        for form in (rel("q", fun("d")), Q, rel("s", C), NO, same(C, fun("d"))):
            number = hall.assume(form)
            self.refuses(hall, Unfit, lambda: hall.swap(0, number, Q))
        number = hall.assume(rel("q", C))
        self.refuses(hall, Unfit, lambda: hall.swap(number, 0, Q))
        self.refuses(hall, Unfit, lambda: hall.swap(0, number, rel("q", fun("d"))))
        self.refuses(hall, Unfit, lambda: hall.swap(0, 0, Q))
        self.seals(hall, lambda: hall.swap(0, number, Q), rel("q", fun("d")))

    def test_swap_whose_form_asks_for_it_in_more_places(self):
        hall = Hall()
        hall.assume(same(C, fun("d")))
        hall.assume(rel("r", C, fun("d")))
        self.refuses(hall, Unfit, lambda: hall.swap(0, 1, rel("r", var(0), var(0))))
        self.refuses(hall, Unfit, lambda: hall.swap(0, 1, rel("r", C, var(0))))
        self.seals(hall, lambda: hall.swap(0, 1, rel("r", var(0), fun("d"))), rel("r", fun("d"), fun("d")))

    def test_axiom_with_a_free_var(self):
        for form in (Q, rel("q", var(999)), every(rel("q", var(1))), cond(every(Q), Q), same(C, fun("f", var(2))),
                     every(rel("q", var(0), var(6)), 6)):
            hall = peopled()
            self.refuses(hall, Unfit, lambda: hall.axiom(form))
            self.assertEqual(hall.axioms(), [P])
            self.assertEqual(hall.bases(hall.axiom(P)), [1])


class TooManyAssumptions(RefusalCase):
    def test_more(self):
        hall = Hall()
        number = with_assumptions(hall, P, 0, 62)
        number = hall.more(number, NO)
        self.assertEqual(len(hall.told(number)[0]), 64)
        self.refuses(hall, TooLarge, lambda: hall.more(number, Q))
        for form in hall.told(number)[0]:
            self.assertEqual(hall.told(hall.more(number, form)), hall.told(number))

    def test_apply(self):
        for many, fits in ((32, True), (33, False)):
            hall = Hall()
            first = with_assumptions(hall, cond(P, Q), 0, 31)
            other = with_assumptions(hall, P, 100, 100 + many - 1)
            if fits:
                self.seals(hall, lambda: hall.apply(first, other), Q)
                self.assertEqual(len(hall.told(hall.many() - 1)[0]), 64)
            else:
                self.refuses(hall, TooLarge, lambda: hall.apply(first, other))

    def test_apply_with_assumptions_that_both_share(self):
        hall = Hall()
        first = with_assumptions(hall, cond(P, Q), 0, 62)
        other = with_assumptions(hall, P, 0, 62)
        self.seals(hall, lambda: hall.apply(first, other), Q)
        self.assertEqual(hall.told(hall.many() - 1)[0], [cond(P, Q)] + numbered(0, 62) + [P])
        other = hall.more(other, NO)
        self.refuses(hall, TooLarge, lambda: hall.apply(first, other))

    def test_swap(self):
        for many, fits in ((32, True), (33, False)):
            hall = Hall()
            first = with_assumptions(hall, same(C, var(0)), 0, 31)
            other = with_assumptions(hall, rel("q", C), 100, 100 + many - 1)
            if fits:
                self.seals(hall, lambda: hall.swap(first, other, Q), Q)
                self.assertEqual(len(hall.told(hall.many() - 1)[0]), 64)
            else:
                self.refuses(hall, TooLarge, lambda: hall.swap(first, other, Q))

    def test_the_steps_that_keep_sixty_four(self):
        hall = Hall()
        number = with_assumptions(hall, NO, 0, 63)
        self.assertEqual(len(hall.told(hall.drop(number, P))[0]), 64)
        self.assertEqual(len(hall.told(hall.clash(number, P))[0]), 64)
        number = hall.every(number)
        self.assertEqual(len(hall.told(number)[0]), 64)
        self.assertEqual(len(hall.told(hall.one(number, C))[0]), 64)
        self.assertEqual(len(hall.told(hall.drop(number, NO))[0]), 63)


class TooLargeConclusions(RefusalCase):
    def test_the_bounds_are_what_they_are_said_to_be(self):
        self.assertEqual([knots(JUST_LARGE[0]), deep(JUST_LARGE[1]), alls(JUST_LARGE[2])], [300, 60, 6])
        self.assertEqual([knots(TOO_LARGE[0]), deep(TOO_LARGE[1]), alls(TOO_LARGE[2])], [301, 61, 7])
        for form in (TOO_LARGE[0], TOO_LARGE[2]):
            self.assertLessEqual(deep(form), 60)
        for form in TOO_LARGE[1:]:
            self.assertLessEqual(knots(form), 300)

    def test_assume(self):
        for form in JUST_LARGE:
            hall = peopled()
            self.seals(hall, lambda: hall.assume(form), form)
        for form in TOO_LARGE:
            hall = peopled()
            self.refuses(hall, TooLarge, lambda: hall.assume(form))

    def test_axiom(self):
        for form in JUST_LARGE:
            hall = peopled()
            self.seals(hall, lambda: hall.axiom(form), form)
            self.assertEqual(hall.axioms(), [P, form])
        for form in TOO_LARGE:
            hall = peopled()
            self.refuses(hall, TooLarge, lambda: hall.axiom(form))
            self.assertEqual(hall.axioms(), [P])
            self.assertEqual(hall.bases(hall.axiom(NO)), [1])

    def test_drop(self):
        for form in (wide_form(298), deep_form(59, NO), every(P, 6)):
            hall = peopled()
            self.seals(hall, lambda: hall.drop(2, form), cond(form, P))
        for form in (wide_form(299), deep_form(60, NO), every(P, 7)):
            hall = peopled()
            self.refuses(hall, TooLarge, lambda: hall.drop(2, form))

    def test_drop_under_a_large_conclusion(self):
        for form, fits in ((wide_form(298), True), (wide_form(299), False), (deep_form(59, NO), True),
                           (deep_form(60, NO), False), (every(P, 6), True)):
            hall = Hall()
            hall.assume(form)
            if fits:
                self.seals(hall, lambda: hall.drop(0, P), cond(P, form))
            else:
                self.refuses(hall, TooLarge, lambda: hall.drop(0, P))
                self.refuses(hall, TooLarge, lambda: hall.drop(0, form))

    def test_clash(self):
        for form in JUST_LARGE:
            hall = peopled()
            self.seals(hall, lambda: hall.clash(3, form), form)
        for form in TOO_LARGE:
            hall = peopled()
            self.refuses(hall, TooLarge, lambda: hall.clash(3, form))

    def test_clash_takes_out_a_denial_that_could_not_be_sealed_itself(self):
        hall = Hall()
        form = wide_form(300)
        number = hall.more(hall.assume(NO), negated(form))
        self.assertEqual(hall.told(hall.clash(number, form)), ([NO], form))

    def test_every(self):
        for form in (wide_form(299), deep_form(59, NO), every(P, 5)):
            hall = Hall()
            hall.assume(form)
            self.seals(hall, lambda: hall.every(0), every(form))
        for form in JUST_LARGE:
            hall = Hall()
            hall.assume(form)
            self.refuses(hall, TooLarge, lambda: hall.every(0))

    def test_one_with_more_knots(self):
        hall = Hall()
        hall.assume(every(rel("r", var(0), var(0), fun("f", var(1)))))
        self.seals(hall, lambda: hall.one(0, wide_term(148)), rel("r", wide_term(148), wide_term(148), fun("f", var(0))))
        self.refuses(hall, TooLarge, lambda: hall.one(0, wide_term(149)))
        hall.assume(every(rel("q", var(0))))
        number = hall.many() - 1
        self.seals(hall, lambda: hall.one(number, wide_term(299)), rel("q", wide_term(299)))
        self.refuses(hall, TooLarge, lambda: hall.one(number, wide_term(300)))

    def test_one_that_is_deeper(self):
        hall = Hall()
        hall.assume(every(cond(P, Q)))
        self.seals(hall, lambda: hall.one(0, deep_term(58, var(3))), cond(P, rel("q", deep_term(58, var(3)))))
        self.refuses(hall, TooLarge, lambda: hall.one(0, deep_term(59, var(3))))
        self.refuses(hall, TooLarge, lambda: hall.one(0, deep_term(60, var(3))))

    def test_one_where_the_term_comes_nowhere(self):
        hall = Hall()
        hall.assume(every(P))
        self.seals(hall, lambda: hall.one(0, wide_term(300)), P)
        self.seals(hall, lambda: hall.one(0, deep_term(60, C)), P)

    def test_one_where_many_vars_become_large(self):
        hall = Hall()
        form = Q
        for _ in range(6):
            form = cond(form, form)
        hall.assume(every(form))
        self.refuses(hall, TooLarge, lambda: hall.one(0, wide_term(300)))

    def test_alike(self):
        hall = Hall()
        self.seals(hall, lambda: hall.alike(wide_term(149)), same(wide_term(149), wide_term(149)))
        self.refuses(hall, TooLarge, lambda: hall.alike(wide_term(150)))
        self.seals(hall, lambda: hall.alike(deep_term(59, C)), same(deep_term(59, C), deep_term(59, C)))
        self.refuses(hall, TooLarge, lambda: hall.alike(deep_term(60, C)))

    def test_swap_with_more_knots(self):
        for form, many in ((cond(NO, Q), 297), (rel("r", var(0), var(0), C), 149)):
            for larger in (many, many + 1):
                hall = Hall()
                hall.assume(same(C, wide_term(larger)))
                hall.assume(put(form, C))
                if larger == many:
                    self.seals(hall, lambda: hall.swap(0, 1, form), put(form, wide_term(many)))
                    self.assertEqual(knots(hall.told(2)[1]), 300)
                else:
                    self.refuses(hall, TooLarge, lambda: hall.swap(0, 1, form))

    def test_swap_that_is_deeper(self):
        for depth, fits in ((58, True), (59, False)):
            hall = Hall()
            hall.assume(same(C, deep_term(depth, var(0))))
            hall.assume(cond(P, rel("q", C)))
            form = cond(P, Q)
            if fits:
                self.seals(hall, lambda: hall.swap(0, 1, form), cond(P, rel("q", deep_term(depth, var(0)))))
            else:
                self.refuses(hall, TooLarge, lambda: hall.swap(0, 1, form))

    def test_a_large_seal_given_to_a_step_that_makes_it_less(self):
        hall = Hall()
        large = cond(wide_form(150), wide_form(149))
        hall.assume(large)
        hall.assume(wide_form(150))
        self.seals(hall, lambda: hall.apply(0, 1), wide_form(149))
        hall.assume(same(wide_term(298), C))
        number = hall.assume(rel("q", wide_term(298)))
        self.seals(hall, lambda: hall.swap(number - 1, number, Q), rel("q", C))


class TwoFaults(RefusalCase):
    """NoSeal goes ahead of Unfit, and Unfit ahead of TooLarge."""

    def test_no_seal_ahead_of_unfit(self):
        hall = peopled()
        for number in (-1, 8):
            self.refuses(hall, NoSeal, lambda: hall.apply(2, number))
            self.refuses(hall, NoSeal, lambda: hall.apply(number, 7))
            self.refuses(hall, NoSeal, lambda: hall.swap(2, number, Q))
            self.refuses(hall, NoSeal, lambda: hall.swap(number, 2, Q))

    def test_no_seal_ahead_of_too_large(self):
        hall = peopled()
        for number in (-1, 8):
            for form in TOO_LARGE:
                self.refuses(hall, NoSeal, lambda: hall.drop(number, form))
                self.refuses(hall, NoSeal, lambda: hall.clash(number, form))
                self.refuses(hall, NoSeal, lambda: hall.more(number, form))
                self.refuses(hall, NoSeal, lambda: hall.swap(5, number, form))
            self.refuses(hall, NoSeal, lambda: hall.one(number, wide_term(301)))

    def test_unfit_ahead_of_too_large(self):
        hall = peopled()
        for form in TOO_LARGE:
            self.refuses(hall, Unfit, lambda: hall.clash(2, form))
            self.refuses(hall, Unfit, lambda: hall.swap(5, 6, form))
        for form in (FREE_LARGE, cond(Q, deep_form(60, NO)), every(rel("q", var(7)), 7)):
            self.refuses(hall, Unfit, lambda: hall.axiom(form))
        self.refuses(hall, Unfit, lambda: hall.one(2, wide_term(301)))

    def test_every_with_nought_in_an_assumption_and_a_large_conclusion(self):
        for form in JUST_LARGE:
            hall = Hall()
            number = hall.more(hall.assume(form), Q)
            self.refuses(hall, Unfit, lambda: hall.every(number))
            self.refuses(hall, TooLarge, lambda: hall.every(0))

    def test_apply_and_swap_with_too_many_assumptions(self):
        hall = Hall()
        first = with_assumptions(hall, cond(P, Q), 0, 40)
        other = with_assumptions(hall, NO, 100, 140)
        self.refuses(hall, Unfit, lambda: hall.apply(first, other))
        self.refuses(hall, Unfit, lambda: hall.swap(first, other, Q))
        equation = with_assumptions(hall, same(C, C), 0, 40)
        self.refuses(hall, Unfit, lambda: hall.swap(equation, other, Q))

    def test_a_hall_goes_on_after_refusals(self):
        hall = Hall()
        with self.assertRaises(NoSeal):
            hall.every(0)
        with self.assertRaises(TooLarge):
            hall.assume(wide_form(301))
        with self.assertRaises(Unfit):
            hall.axiom(Q)
        self.assertEqual(hall.assume(Q), 0)
        with self.assertRaises(Unfit):
            hall.every(0)
        self.assertEqual(hall.axiom(P), 1)
        self.assertEqual(hall.bases(1), [0])


if __name__ == "__main__":
    unittest.main()
