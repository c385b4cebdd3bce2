"""The steps of a hall where they fit, and what a hall tells of its seals."""

import unittest

from surehall.hall import Hall
from surehall.words import lifted, put
from tests.making import (
    NO, cond, deep_form, every, fun, negated, numbered, rel, same, small_forms, small_terms, var, whole, wide_form,
)

P = rel("p")
Q = rel("q", var(0))
R = rel("r", var(0), var(1))


def under(hall, conclusion, others):
    """The number of a seal of the conclusion under itself and the others, in this order."""
    number = hall.assume(conclusion)
    for form in others:
        number = hall.more(number, form)
    return number


def on_axioms(hall, conclusion, times):
    """The number of a seal of the conclusion that stands on so many new axioms, without assumptions."""
    number = hall.axiom(conclusion)
    for _ in range(times - 1):
        number = hall.apply(hall.drop(number, conclusion), hall.axiom(conclusion))
    return number


class StepCase(unittest.TestCase):
    def told_is(self, hall, number, assumptions, conclusion, bases=()):
        self.assertEqual(number, hall.many() - 1)
        self.assertEqual(hall.told(number), (list(assumptions), conclusion))
        self.assertEqual(hall.bases(number), list(bases))


class Empty(unittest.TestCase):
    def test_an_empty_hall(self):
        hall = Hall()
        self.assertEqual(hall.many(), 0)
        self.assertEqual(hall.axioms(), [])

    def test_two_halls_do_not_turn_with_one_another(self):
        first = Hall()
        second = Hall()
        first.axiom(P)
        first.assume(Q)
        self.assertEqual((second.many(), second.axioms()), (0, []))
        self.assertEqual(second.axiom(NO), 0)
        self.assertEqual(first.told(0), ([], P))
        self.assertEqual(first.axioms(), [P])
        self.assertEqual(second.axioms(), [NO])
        self.assertEqual((first.many(), second.many()), (2, 1))


class Assume(StepCase):
    def test_the_form_under_itself_alone(self):
        hall = Hall()
        for number, form in enumerate(small_forms()):
            self.assertEqual(hall.assume(form), number)
            self.told_is(hall, number, [form], form)

    def test_the_same_form_again_is_another_seal(self):
        hall = Hall()
        self.assertEqual([hall.assume(P), hall.assume(P), hall.assume(P)], [0, 1, 2])
        self.assertEqual(hall.many(), 3)
        self.assertEqual(hall.stood(2), [2])


class Drop(StepCase):
    def test_a_form_among_the_assumptions(self):
        hall = Hall()
        self.told_is(hall, hall.drop(hall.assume(Q), Q), [], cond(Q, Q))

    def test_a_form_that_is_not_among_them(self):
        hall = Hall()
        self.told_is(hall, hall.drop(hall.assume(Q), P), [Q], cond(P, Q))
        self.told_is(hall, hall.drop(hall.alike(var(0)), P), [], cond(P, same(var(0), var(0))))

    def test_the_others_keep_their_order(self):
        forms = numbered(0, 5)
        for place in range(5):
            hall = Hall()
            number = hall.drop(under(hall, forms[0], forms[1:]), forms[place])
            self.told_is(hall, number, [form for form in forms if form != forms[place]], cond(forms[place], forms[0]))

    def test_the_seal_that_it_is_made_of_stays(self):
        hall = Hall()
        hall.drop(hall.assume(Q), Q)
        self.assertEqual(hall.told(0), ([Q], Q))

    def test_a_form_that_differs_in_its_free_number_is_another(self):
        hall = Hall()
        self.told_is(hall, hall.drop(hall.assume(Q), lifted(Q)), [Q], cond(lifted(Q), Q))

    def test_bases_are_kept(self):
        hall = Hall()
        number = on_axioms(hall, P, 3)
        self.told_is(hall, hall.drop(number, Q), [], cond(Q, P), [0, 1, 2])


class Apply(StepCase):
    def test_the_second_form_of_the_if(self):
        hall = Hall()
        first = hall.assume(cond(P, Q))
        other = hall.assume(P)
        self.told_is(hall, hall.apply(first, other), [cond(P, Q), P], Q)

    def test_the_order_of_both_assumptions_together(self):
        a, b, c, d = numbered(0, 4)
        hall = Hall()
        first = under(hall, cond(P, Q), [a, b])
        other = under(hall, P, [c, b, a, d])
        self.told_is(hall, hall.apply(first, other), [cond(P, Q), a, b, P, c, d], Q)
        self.assertEqual(hall.told(first), ([cond(P, Q), a, b], cond(P, Q)))
        self.assertEqual(hall.told(other), ([P, c, b, a, d], P))

    def test_the_first_seals_assumptions_go_ahead_whichever_is_older(self):
        hall = Hall()
        other = hall.assume(P)
        first = hall.assume(cond(P, Q))
        self.told_is(hall, hall.apply(first, other), [cond(P, Q), P], Q)

    def test_bases_of_both_rising_and_each_once(self):
        hall = Hall()
        hall.axiom(NO)
        p = hall.axiom(P)
        first = hall.axiom(cond(P, cond(P, NO)))
        inner = hall.apply(first, p)
        self.told_is(hall, inner, [], cond(P, NO), [1, 2])
        self.told_is(hall, hall.apply(inner, p), [], NO, [1, 2])
        late = hall.axiom(P)
        early = hall.apply(first, late)
        self.told_is(hall, early, [], cond(P, NO), [2, 3])
        self.told_is(hall, hall.apply(early, p), [], NO, [1, 2, 3])

    def test_bases_that_come_first_stand_ahead_though_the_other_seal_has_them(self):
        hall = Hall()
        other = hall.axiom(P)
        first = hall.axiom(cond(P, NO))
        self.told_is(hall, hall.apply(first, other), [], NO, [0, 1])

    def test_bases_of_many_axioms_are_rising(self):
        hall = Hall()
        numbers = [hall.axiom(P) for _ in range(40)]
        number = hall.axiom(cond(P, P))
        wanted = [40]
        for place in (33, 1, 8, 16, 39, 7, 24):
            number = hall.drop(hall.apply(number, numbers[place]), P)
            wanted = sorted(wanted + [place])
            self.told_is(hall, number, [], cond(P, P), wanted)

    def test_the_same_seal_may_be_given_again_later(self):
        hall = Hall()
        first = hall.assume(cond(P, cond(P, Q)))
        other = hall.assume(P)
        half = hall.apply(first, other)
        whole = hall.apply(half, other)
        self.told_is(hall, whole, [cond(P, cond(P, Q)), P], Q)
        self.assertEqual(hall.stood(whole), [0, 1, 2, 3])


class Clash(StepCase):
    def test_the_form_that_was_denied(self):
        hall = Hall()
        no = hall.apply(hall.assume(negated(Q)), hall.assume(Q))
        self.told_is(hall, hall.clash(no, Q), [Q], Q)

    def test_an_assumption_that_denies_nothing_of_it_stays(self):
        hall = Hall()
        no = hall.assume(NO)
        self.told_is(hall, hall.clash(no, P), [NO], P)
        no = hall.apply(hall.assume(negated(Q)), hall.assume(Q))
        self.told_is(hall, hall.clash(no, P), [negated(Q), Q], P)

    def test_the_form_itself_is_not_taken_out(self):
        hall = Hall()
        no = hall.apply(hall.assume(negated(Q)), hall.assume(Q))
        self.told_is(hall, hall.clash(no, negated(Q)), [negated(Q), Q], negated(Q))

    def test_with_no_itself(self):
        hall = Hall()
        no = hall.more(hall.assume(NO), negated(NO))
        self.told_is(hall, hall.clash(no, NO), [NO], NO)

    def test_a_form_denied_twice(self):
        hall = Hall()
        twice = negated(negated(Q))
        no = hall.apply(hall.assume(twice), hall.assume(negated(Q)))
        number = hall.clash(no, Q)
        self.told_is(hall, number, [twice], Q)
        self.told_is(hall, hall.drop(number, twice), [], cond(twice, Q))

    def test_bases_are_kept(self):
        hall = Hall()
        number = on_axioms(hall, NO, 2)
        self.told_is(hall, hall.clash(number, Q), [], Q, [0, 1])


class Every(StepCase):
    def test_without_assumptions(self):
        hall = Hall()
        self.told_is(hall, hall.every(hall.alike(var(0))), [], every(same(var(0), var(0))))

    def test_the_conclusion_stays_as_it_is_behind_the_all(self):
        hall = Hall()
        number = hall.drop(hall.assume(R), R)
        self.told_is(hall, hall.every(number), [], every(cond(R, R)))

    def test_assumptions_are_lowered_in_their_order(self):
        hall = Hall()
        forms = [rel("q", var(3)), P, every(rel("r", var(0), var(2))), rel("q", var(1))]
        number = under(hall, forms[0], forms[1:])
        lowered_forms = [rel("q", var(2)), P, every(rel("r", var(0), var(1))), rel("q", var(0))]
        self.told_is(hall, hall.every(number), lowered_forms, every(forms[0]))
        self.assertEqual(hall.told(number), (forms, forms[0]))

    def test_each_small_form_that_was_lifted(self):
        hall = Hall()
        for form in small_forms():
            number = hall.assume(lifted(form))
            if lifted(form)[0] != "all":
                self.told_is(hall, hall.every(number), [form], every(lifted(form)))

    def test_again_and_again(self):
        hall = Hall()
        number = hall.assume(rel("q", var(2)))
        for left in (1, 0):
            number = hall.every(number)
            self.assertEqual(hall.told(number)[0], [rel("q", var(left))])
        self.told_is(hall, number, [Q], every(rel("q", var(2)), 2))

    def test_bases_are_kept(self):
        hall = Hall()
        self.told_is(hall, hall.every(on_axioms(hall, P, 2)), [], every(P), [0, 1])


class One(StepCase):
    def test_the_term_put_into_the_form(self):
        for form in small_forms():
            for term in small_terms():
                if form[0] != "all":
                    hall = Hall()
                    number = hall.one(hall.assume(every(form)), term)
                    self.told_is(hall, number, [every(form)], put(form, term))

    def test_a_term_with_vars_under_several_alls(self):
        hall = Hall()
        term = fun("g", var(0), fun("f", var(4)))
        inner = cond(rel("r", var(0), var(1)), every(every(rel("r", var(2), fun("g", var(3), var(1))))))
        number = hall.one(hall.assume(every(inner)), term)
        there = fun("g", var(2), fun("f", var(6)))
        self.told_is(hall, number, [every(inner)],
                     cond(rel("r", term, var(0)), every(every(rel("r", there, fun("g", var(2), var(1)))))))

    def test_a_form_in_which_the_all_has_no_var(self):
        hall = Hall()
        number = hall.one(hall.assume(every(rel("q", var(1)))), fun("c"))
        self.told_is(hall, number, [every(rel("q", var(1)))], Q)

    def test_one_all_of_several(self):
        hall = Hall()
        number = hall.one(hall.assume(every(R, 2)), var(7))
        self.told_is(hall, number, [every(R, 2)], every(rel("r", var(0), var(8))))
        self.told_is(hall, hall.one(number, fun("c")), [every(R, 2)], rel("r", fun("c"), var(7)))

    def test_all_and_back(self):
        hall = Hall()
        number = hall.every(hall.drop(hall.assume(Q), Q))
        self.told_is(hall, hall.one(number, var(0)), [], cond(Q, Q))

    def test_bases_are_kept(self):
        hall = Hall()
        self.told_is(hall, hall.one(on_axioms(hall, every(Q), 2), fun("c")), [], rel("q", fun("c")), [0, 1])


class Alike(StepCase):
    def test_a_term_is_the_same_as_itself(self):
        hall = Hall()
        for number, term in enumerate(small_terms()):
            self.assertEqual(hall.alike(term), number)
            self.told_is(hall, number, [], same(term, term))
            self.assertEqual(hall.stood(number), [number])


class Swap(StepCase):
    def swapped(self, form, a, b):
        hall = Hall()
        equation = hall.assume(same(a, b))
        other = hall.assume(put(form, a))
        number = hall.swap(equation, other, form)
        wanted = [same(a, b)] if put(form, a) == same(a, b) else [same(a, b), put(form, a)]
        self.told_is(hall, number, wanted, put(form, b))
        self.assertEqual(hall.stood(number), [0, 1, 2])

    def test_each_small_form_with_two_terms(self):
        terms = small_terms()
        for form in small_forms()[:120]:
            for a, b in zip(terms, terms[1:] + terms[:1]):
                self.swapped(form, a, b)

    def test_the_free_number_nought_once_several_times_and_not_at_all(self):
        c, d = fun("c"), fun("d")
        hall = Hall()
        equation = hall.assume(same(c, d))
        other = hall.assume(rel("r", c, c))
        assumed = [same(c, d), rel("r", c, c)]
        self.told_is(hall, hall.swap(equation, other, rel("r", var(0), c)), assumed, rel("r", d, c))
        self.told_is(hall, hall.swap(equation, other, rel("r", c, var(0))), assumed, rel("r", c, d))
        self.told_is(hall, hall.swap(equation, other, rel("r", var(0), var(0))), assumed, rel("r", d, d))
        self.told_is(hall, hall.swap(equation, other, rel("r", c, c)), assumed, rel("r", c, c))

    def test_the_other_free_numbers_of_the_form_become_one_less(self):
        hall = Hall()
        equation = hall.assume(same(var(0), fun("c")))
        other = hall.assume(R)
        number = hall.swap(equation, other, rel("r", var(0), var(2)))
        self.told_is(hall, number, [same(var(0), fun("c")), R], rel("r", fun("c"), var(1)))

    def test_under_alls(self):
        hall = Hall()
        equation = hall.assume(same(var(0), fun("f", var(1))))
        other = hall.assume(every(rel("r", var(0), var(1))))
        number = hall.swap(equation, other, every(rel("r", var(0), var(1))))
        self.told_is(hall, number, [same(var(0), fun("f", var(1))), every(rel("r", var(0), var(1)))],
                     every(rel("r", var(0), fun("f", var(2)))))

    def test_one_seal_given_twice(self):
        hall = Hall()
        a, b = fun("c"), fun("f", var(3))
        equation = hall.assume(same(a, b))
        number = hall.swap(equation, equation, same(var(0), fun("f", var(4))))
        self.told_is(hall, number, [same(a, b)], same(b, b))
        self.assertEqual(hall.stood(number), [0, 1])

    def test_both_sides_turned_round(self):
        hall = Hall()
        equation = hall.assume(same(var(0), var(1)))
        number = hall.swap(equation, hall.alike(var(0)), same(var(0), var(1)))
        self.told_is(hall, number, [same(var(0), var(1))], same(var(1), var(0)))

    def test_the_order_of_both_assumptions_together(self):
        a, b, c = numbered(0, 3)
        hall = Hall()
        equation = under(hall, same(var(0), var(1)), [a, b])
        other = under(hall, Q, [c, b])
        number = hall.swap(equation, other, Q)
        self.told_is(hall, number, [same(var(0), var(1)), a, b, Q, c], rel("q", var(1)))

    def test_bases_that_both_share(self):
        hall = Hall()
        equation = hall.axiom(same(fun("c"), fun("d")))
        hall.axiom(P)
        other = hall.axiom(rel("q", fun("c")))
        swapped = hall.swap(equation, other, Q)
        self.told_is(hall, swapped, [], rel("q", fun("d")), [0, 2])
        self.told_is(hall, hall.swap(equation, swapped, rel("q", fun("d"))), [], rel("q", fun("d")), [0, 2])
        self.told_is(hall, hall.swap(equation, equation, same(var(0), fun("d"))), [], same(fun("d"), fun("d")), [0])


class More(StepCase):
    def test_a_form_that_is_not_among_the_assumptions_goes_behind(self):
        hall = Hall()
        number = hall.more(hall.assume(Q), P)
        self.told_is(hall, number, [Q, P], Q)
        self.told_is(hall, hall.more(number, NO), [Q, P, NO], Q)
        self.told_is(hall, hall.more(hall.alike(var(0)), P), [P], same(var(0), var(0)))

    def test_a_form_that_is_among_them_stays_where_it_is(self):
        hall = Hall()
        number = hall.more(hall.more(hall.assume(Q), P), NO)
        for form in (Q, P, NO):
            self.told_is(hall, hall.more(number, form), [Q, P, NO], Q)

    def test_assumptions_are_not_bounded_by_what_bounds_a_conclusion(self):
        hall = Hall()
        forms = [wide_form(301), deep_form(61, NO), every(P, 7)]
        number = hall.assume(P)
        for form in forms:
            number = hall.more(number, form)
        self.told_is(hall, number, [P] + forms, P)

    def test_bases_are_kept(self):
        hall = Hall()
        self.told_is(hall, hall.more(on_axioms(hall, P, 2), Q), [Q], P, [0, 1])


class Axiom(StepCase):
    def test_a_new_axiom_alone_is_its_bases(self):
        hall = Hall()
        self.told_is(hall, hall.axiom(P), [], P, [0])
        hall.assume(P)
        self.told_is(hall, hall.axiom(every(Q)), [], every(Q), [1])
        self.told_is(hall, hall.axiom(NO), [], NO, [2])
        self.assertEqual(hall.axioms(), [P, every(Q), NO])

    def test_the_same_form_again_is_another_axiom(self):
        hall = Hall()
        self.told_is(hall, hall.axiom(P), [], P, [0])
        self.told_is(hall, hall.axiom(P), [], P, [1])
        self.assertEqual(hall.axioms(), [P, P])

    def test_vars_that_belong_to_alls_are_not_free(self):
        hall = Hall()
        form = every(cond(Q, every(rel("r", var(1), fun("f", var(0))))))
        self.told_is(hall, hall.axiom(form), [], form, [0])


class Stood(unittest.TestCase):
    def test_each_step_stands_on_itself_and_on_what_was_given(self):
        hall = Hall()
        q = hall.assume(Q)
        other = hall.assume(same(var(0), var(1)))
        drop = hall.drop(q, Q)
        self.assertEqual(hall.stood(drop), [q, drop])
        applied = hall.apply(drop, q)
        self.assertEqual(hall.stood(applied), [q, drop, applied])
        swapped = hall.swap(other, q, Q)
        self.assertEqual(hall.stood(swapped), [q, other, swapped])
        grown = hall.more(swapped, P)
        self.assertEqual(hall.stood(grown), [q, other, swapped, grown])
        whole = hall.every(drop)
        self.assertEqual(hall.stood(whole), [q, drop, whole])
        single = hall.one(whole, fun("c"))
        self.assertEqual(hall.stood(single), [q, drop, whole, single])
        no = hall.assume(NO)
        clash = hall.clash(no, P)
        self.assertEqual(hall.stood(clash), [no, clash])
        alike = hall.alike(var(0))
        self.assertEqual(hall.stood(alike), [alike])
        axiom = hall.axiom(P)
        self.assertEqual(hall.stood(axiom), [axiom])

    def test_it_is_rising_and_each_once(self):
        hall = Hall()
        p = hall.assume(P)
        first = hall.drop(p, P)
        hall.assume(NO)
        left = hall.apply(first, p)
        right = hall.drop(left, P)
        hall.alike(var(0))
        last = hall.apply(right, left)
        self.assertEqual(hall.stood(last), [p, first, left, right, last])
        self.assertEqual(hall.stood(left), [p, first, left])

    def test_a_seal_without_assumptions_stands_on_what_was_dropped_too(self):
        hall = Hall()
        self.assertEqual(hall.stood(hall.drop(hall.assume(P), P)), [0, 1])

    def test_a_long_row(self):
        hall = Hall()
        number = hall.assume(P)
        for _ in range(3000):
            number = hall.more(number, P)
        self.assertEqual(hall.stood(number), list(range(3001)))
        self.assertEqual(hall.stood(1500), list(range(1501)))

    def test_later_seals_do_not_turn_it(self):
        hall = Hall()
        number = hall.drop(hall.assume(P), P)
        before = hall.stood(number)
        hall.apply(number, 0)
        self.assertEqual(hall.stood(number), before)


class TheAskersOwn(unittest.TestCase):
    def full_hall(self):
        hall = Hall()
        hall.axiom(P)
        hall.axiom(every(Q))
        hall.more(hall.assume(Q), P)
        hall.swap(hall.assume(same(var(0), var(1))), 3, Q)
        hall.apply(hall.drop(0, P), 0)
        hall.one(1, var(0))
        return hall

    def test_lists_that_are_changed_by_the_asker(self):
        hall = self.full_hall()
        before = whole(hall)
        for number in range(hall.many()):
            for got in (hall.told(number)[0], hall.bases(number), hall.stood(number), hall.axioms()):
                got.append(99)
                got.reverse()
                got.clear()
        self.assertEqual(whole(hall), before)

    def test_no_two_lists_are_one(self):
        hall = self.full_hall()
        for number in range(hall.many()):
            lists = []
            for _ in range(2):
                lists += [hall.told(number)[0], hall.bases(number), hall.stood(number), hall.axioms()]
            self.assertEqual(len({id(got) for got in lists}), len(lists))

    def test_lists_of_two_seals_with_the_same_assumptions(self):
        hall = Hall()
        first = hall.assume(every(Q))
        second = hall.one(first, var(0))
        got = hall.told(first)[0]
        got.append(P)
        self.assertEqual(hall.told(second), ([every(Q)], Q))

    def test_kinds(self):
        hall = self.full_hall()
        for number in range(hall.many()):
            told = hall.told(number)
            self.assertIs(type(told), tuple)
            self.assertEqual(len(told), 2)
            for got in (told[0], hall.bases(number), hall.stood(number), hall.axioms()):
                self.assertIs(type(got), list)
            self.assertIs(type(told[1]), tuple)
        self.assertIs(type(hall.many()), int)

    def test_tuples_handed_in_are_used_again(self):
        form = cond(Q, P)
        hall = Hall()
        other = Hall()
        for _ in range(2):
            for each in (hall, other):
                each.drop(each.assume(form), form)
                each.more(each.assume(Q), form)
        self.assertEqual(form, cond(rel("q", var(0)), rel("p")))
        self.assertEqual(whole(hall), whole(other))
        self.assertEqual(hall.told(5), ([], cond(form, form)))

    def test_asking_turns_nothing(self):
        hall = self.full_hall()
        self.assertEqual(whole(hall), whole(hall))

    def test_arguments_go_by_their_names(self):
        hall = Hall()
        hall.assume(form=NO)
        hall.drop(number=0, form=NO)
        hall.apply(number=1, other=0)
        hall.clash(number=2, form=P)
        hall.every(number=3)
        hall.one(number=4, term=var(0))
        hall.alike(term=var(0))
        hall.swap(number=6, other=6, form=same(var(0), var(0)))
        hall.more(number=7, form=P)
        hall.axiom(form=P)
        self.assertEqual(hall.many(), 10)
        self.assertEqual(hall.told(number=9), ([], P))
        self.assertEqual(hall.bases(number=9), [0])
        self.assertEqual(hall.stood(number=9), [9])


if __name__ == "__main__":
    unittest.main()
