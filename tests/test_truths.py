"""Atoms, refuters, and what is derived."""

import itertools
import random
import unittest

from surehall.deeds import played
from surehall.errors import TooLarge, Unfit
from surehall.hall import Hall
from surehall.truths import atoms, derived, refuter
from surehall.words import alls, deep, knots
from tests.making import (
    NO, cond, deep_form, deep_term, every, fun, negated, numbered, rel, same, var, wide_form, wide_term,
)

A, B, C, D = rel("a"), rel("b"), rel("c"), rel("d")


def chain(forms):
    """The last form under all the others."""
    form = forms[-1]
    for ahead in reversed(forms[:-1]):
        form = cond(ahead, form)
    return form


def both(x, y):
    return negated(cond(x, negated(y)))


def either(x, y):
    return cond(negated(x), y)


def odd_count(forms):
    """A form whose truth hangs on whether the count of its True atoms is odd: no atom can be left out."""
    form = forms[-1]
    for other in forms[:-1]:
        form = cond(cond(form, other), negated(cond(other, form)))
    return form


class Atoms(unittest.TestCase):
    def test_each_make_of_atom(self):
        for form in (A, rel("q", var(0)), same(var(0), fun("c")), every(cond(A, B)), every(NO)):
            self.assertEqual(atoms(form), [form])

    def test_a_form_without_atoms(self):
        for form in (NO, cond(NO, NO), cond(cond(NO, NO), NO), wide_form(1), deep_form(60, NO)):
            self.assertEqual(atoms(form), [])

    def test_into_both_forms_of_an_if_the_first_ahead(self):
        self.assertEqual(atoms(cond(A, B)), [A, B])
        self.assertEqual(atoms(cond(B, A)), [B, A])
        self.assertEqual(atoms(cond(cond(C, A), cond(B, D))), [C, A, B, D])
        self.assertEqual(atoms(cond(cond(cond(D, NO), C), cond(NO, cond(B, A)))), [D, C, B, A])

    def test_each_once_where_it_is_first_met(self):
        self.assertEqual(atoms(cond(A, A)), [A])
        self.assertEqual(atoms(chain([B, A, B, C, A, D])), [B, A, C, D])
        self.assertEqual(atoms(cond(cond(cond(A, B), A), A)), [A, B])

    def test_not_into_an_all(self):
        self.assertEqual(atoms(every(cond(A, B))), [every(cond(A, B))])
        self.assertEqual(atoms(cond(every(A), A)), [every(A), A])
        self.assertEqual(atoms(cond(every(cond(A, A)), every(cond(A, A)))), [every(cond(A, A))])

    def test_what_differs_at_all_is_another_atom(self):
        forms = [rel("q", var(0)), rel("q", var(1)), rel("q"), rel("q", var(0), var(0)), rel("q", fun("q")),
                 same(var(0), var(1)), same(var(1), var(0)), every(rel("q", var(0)))]
        self.assertEqual(atoms(chain(forms + forms)), forms)

    def test_many_atoms_are_not_refused(self):
        self.assertEqual(atoms(chain(numbered(0, 60))), numbered(0, 60))

    def test_the_list_is_the_askers_own(self):
        form = cond(A, cond(B, A))
        got = atoms(form)
        got.reverse()
        got.append(NO)
        self.assertEqual(atoms(form), [A, B])
        self.assertIsNot(atoms(form), atoms(form))
        self.assertIs(type(atoms(form)), list)
        self.assertEqual(form, cond(A, cond(B, A)))


def plainly_true(form, found, answers):
    if form == NO:
        return False
    if form[0] == "if":
        return plainly_true(form[2], found, answers) if plainly_true(form[1], found, answers) else True
    return answers[found.index(form)]


def plain_refuter(form):
    found = atoms(form)
    for answers in itertools.product((False, True), repeat=len(found)):
        if not plainly_true(form, found, answers):
            return list(answers)
    return None


def random_forms(seed, count, leaves, most):
    chance = random.Random(seed)

    def grown(many):
        if many == 1:
            return chance.choice(leaves)
        first = chance.randrange(1, many)
        return cond(grown(first), grown(many - first))

    return [grown(chance.randrange(1, most + 1)) for _ in range(count)]


class Refuter(unittest.TestCase):
    def test_one_atom(self):
        self.assertEqual(refuter(A), [False])
        self.assertEqual(refuter(negated(A)), [True])
        self.assertIsNone(refuter(cond(A, A)))

    def test_a_form_without_atoms(self):
        self.assertEqual(refuter(NO), [])
        self.assertEqual(refuter(cond(cond(NO, NO), NO)), [])
        self.assertIsNone(refuter(cond(NO, NO)))
        self.assertIsNone(refuter(cond(cond(cond(NO, NO), NO), NO)))

    def test_each_kind_of_atom(self):
        for atom in (rel("q", var(0)), same(var(0), var(0)), every(cond(A, A)), every(NO)):
            self.assertEqual(refuter(atom), [False])
            self.assertEqual(refuter(negated(atom)), [True])
            self.assertIsNone(refuter(cond(atom, atom)))

    def test_an_if(self):
        self.assertEqual(refuter(cond(A, B)), [True, False])
        self.assertEqual(refuter(cond(B, A)), [True, False])
        self.assertEqual(refuter(cond(A, NO)), [True])
        self.assertIsNone(refuter(cond(NO, A)))

    def test_the_first_of_several(self):
        self.assertEqual(refuter(both(A, B)), [False, False])
        self.assertEqual(refuter(cond(either(A, B), NO)), [False, True])
        self.assertEqual(refuter(cond(cond(A, B), NO)), [False, False])
        self.assertEqual(refuter(chain([either(A, B), C, NO])), [False, True, True])
        self.assertEqual(refuter(cond(cond(A, NO), cond(B, NO))), [False, True])
        self.assertEqual(refuter(cond(cond(B, NO), cond(A, NO))), [False, True])

    def test_the_order_of_the_atoms_counts_and_not_their_names(self):
        self.assertEqual(refuter(cond(either(B, A), cond(A, NO))), [False, True])
        self.assertEqual(refuter(cond(either(B, A), cond(B, NO))), [True, False])

    def test_an_atom_that_stands_several_times(self):
        self.assertEqual(refuter(chain([A, A, A, B])), [True, False])
        self.assertIsNone(refuter(chain([A, B, A])))
        self.assertIsNone(refuter(cond(cond(cond(A, B), A), A)))

    def test_eight_and_nine_atoms(self):
        forms = numbered(0, 9)
        self.assertEqual(refuter(chain(forms[:8])), [True] * 7 + [False])
        self.assertIsNone(refuter(chain(forms[:8] + forms[:1])))
        self.assertEqual(refuter(negated(chain(forms[:8]))), [False] * 8)
        self.assertEqual(refuter(chain(forms[:8] + [NO])), [True] * 8)
        for form in (chain(forms), chain(forms + forms[:1]), chain(forms + [NO]), cond(NO, chain(forms)),
                     chain(numbered(0, 30))):
            with self.assertRaises(TooLarge) as caught:
                refuter(form)
            self.assertIs(type(caught.exception), TooLarge)

    def test_eight_atoms_that_stand_many_times(self):
        forms = numbered(0, 8)
        self.assertEqual(refuter(chain(forms * 6 + [NO])), [True] * 8)
        self.assertIsNone(refuter(chain(forms * 6)))

    def test_all_small_forms(self):
        level = [NO, A, B, C]
        forms = level + [cond(x, y) for x in level for y in level]
        for form in [cond(x, y) for x in forms for y in forms]:
            self.assertEqual(refuter(form), plain_refuter(form), form)

    def test_larger_forms(self):
        for form in random_forms(7, 400, [NO] + numbered(0, 6), 40):
            self.assertEqual(refuter(form), plain_refuter(form), form)

    def test_the_list_is_the_askers_own(self):
        form = chain([A, B, C])
        got = refuter(form)
        for answer in got:
            self.assertIs(type(answer), bool)
        self.assertIs(type(got), list)
        got.clear()
        self.assertEqual(refuter(form), [True, True, False])
        self.assertIsNot(refuter(NO), refuter(NO))


class Derived(unittest.TestCase):
    def derives(self, form):
        row = derived(form)
        self.assertIs(type(row), list)
        self.assertLessEqual(len(row), 6000)
        for deed in row:
            self.assertIs(type(deed), tuple)
            self.assertIn(deed[0], ("assume", "drop", "apply", "clash"))
            handed = deed[-1]
            if deed[0] != "apply":
                self.assertLessEqual(knots(handed), 300)
                self.assertLessEqual(deep(handed), 60)
                self.assertLessEqual(alls(handed), 6)
        hall = Hall()
        numbers = played(hall, row)
        self.assertEqual(len(numbers), len(row))
        self.assertEqual(hall.told(numbers[-1]), ([], form))
        self.assertEqual(hall.bases(numbers[-1]), [])
        self.assertEqual(hall.axioms(), [])
        return row

    def test_well_known_forms(self):
        for form in (
            cond(A, A), chain([A, B, A]), cond(chain([A, B, C]), chain([cond(A, B), A, C])),
            cond(negated(negated(A)), A), cond(A, negated(negated(A))), cond(cond(cond(A, B), A), A),
            cond(NO, A), chain([negated(A), A, B]), either(A, negated(A)), cond(cond(negated(A), negated(B)), cond(B, A)),
            cond(both(A, B), A), cond(both(A, B), B), chain([A, B, both(A, B)]), cond(A, either(A, B)),
            cond(B, either(A, B)), chain([either(A, B), cond(A, C), cond(B, C), C]),
            either(cond(A, B), cond(B, A)), chain([A, A, A]), chain([A, NO, B]), negated(both(A, negated(A))),
        ):
            self.derives(form)

    def test_forms_without_atoms(self):
        for form in (cond(NO, NO), chain([NO, NO, NO]), cond(cond(cond(NO, NO), NO), NO), negated(negated(negated(NO)))):
            self.derives(form)

    def test_all_small_forms_without_a_refuter(self):
        level = [NO, A, B]
        forms = level + [cond(x, y) for x in level for y in level]
        forms = [cond(x, y) for x in forms for y in forms]
        for form in forms + [cond(form, A) for form in forms] + [cond(A, form) for form in forms]:
            if plain_refuter(form) is None:
                self.derives(form)
            else:
                with self.assertRaises(Unfit):
                    derived(form)

    def test_each_kind_of_atom(self):
        forms = [rel("q", var(999)), same(var(0), fun("c")), every(cond(A, A)), every(rel("q", var(5)), 6)]
        self.derives(chain([negated(forms[0])] + forms))
        for atom in forms:
            self.derives(either(atom, negated(atom)))

    def test_four_atoms_and_sixty_knots(self):
        for seed in range(4):
            for leaves in ([A, B, C, D], [NO, A, B, C, D], [NO, NO, A, B, C, D]):
                for form in random_forms(seed, 60, leaves, 30):
                    if plain_refuter(form) is None:
                        self.derives(form)

    def test_sixty_knots_where_every_valuation_counts(self):
        form = odd_count([A, B, C])
        self.assertEqual(knots(cond(form, form)), 51)
        self.derives(cond(form, form))
        every_case = []
        for first in (A, negated(A)):
            for second in (B, negated(B)):
                every_case.append(chain([first, second, D]))
        self.assertLessEqual(knots(chain(every_case + [D])), 60)
        self.derives(chain(every_case + [D]))
        self.derives(cond(negated(chain(every_case + [D])), C))

    def test_four_atoms_in_every_leaf(self):
        for form in random_forms(11, 30, [A, B, C, D], 15):
            self.derives(cond(form, form))
            self.derives(chain([negated(form), form, A]))

    def test_a_form_of_sixty_knots_that_is_as_deep_as_can_be(self):
        atom = rel("q", deep_term(57, var(0)))
        form = cond(NO, atom)
        self.assertEqual((knots(form), deep(form)), (60, 59))
        self.derives(form)
        self.derives(cond(rel("q", deep_term(28, var(0))), rel("q", deep_term(28, var(0)))))
        left = A
        right = A
        for _ in range(28):
            left = cond(left, NO)
            right = cond(NO, right)
        self.derives(left if plain_refuter(left) is None else cond(left, A))
        self.derives(right)

    def test_six_alls_in_an_atom(self):
        atom = every(rel("q", var(0)), 6)
        self.derives(cond(negated(negated(atom)), atom))
        self.derives(chain([atom, negated(atom), A]))

    def test_somewhat_more_than_sixty_knots(self):
        atom = rel("q", deep_term(58, var(0)))
        self.derives(cond(NO, atom))
        self.derives(cond(atom, atom))
        wide = rel("q", wide_term(148))
        self.assertEqual(knots(cond(wide, wide)), 299)
        self.derives(cond(wide, wide))
        for form in random_forms(5, 20, [A, B, C, D], 20):
            self.derives(cond(form, form))

    def test_four_and_five_atoms(self):
        forms = numbered(0, 5)
        self.derives(chain(forms[:4] + forms[:1]))
        self.derives(chain(forms[:4] + forms[3:4]))
        for form in (chain(forms + forms[:1]), cond(NO, chain(forms)), chain(numbered(0, 12) + forms)):
            with self.assertRaises(TooLarge) as caught:
                derived(form)
            self.assertIs(type(caught.exception), TooLarge)

    def test_too_large_goes_ahead_of_unfit(self):
        for many in (5, 6, 8, 9, 20):
            with self.assertRaises(TooLarge):
                derived(chain(numbered(0, many)))
            with self.assertRaises(TooLarge):
                derived(chain(numbered(0, many) + [NO]))

    def test_a_form_with_a_refuter(self):
        for form in (NO, A, negated(A), cond(A, B), chain(numbered(0, 4)), cond(cond(NO, NO), NO), every(cond(A, A)),
                     same(var(0), var(0)), cond(every(A), A), both(A, B)):
            with self.assertRaises(Unfit) as caught:
                derived(form)
            self.assertIs(type(caught.exception), Unfit)

    def test_a_row_is_played_in_a_hall_that_has_seals_already(self):
        form = cond(cond(cond(A, B), A), A)
        hall = Hall()
        hall.axiom(A)
        hall.assume(B)
        numbers = played(hall, derived(form))
        self.assertEqual(hall.told(numbers[-1]), ([], form))
        self.assertEqual(hall.bases(numbers[-1]), [])
        self.assertNotIn(0, hall.stood(numbers[-1]))

    def test_the_list_is_the_askers_own(self):
        form = chain([A, B, A])
        before = derived(form)
        got = derived(form)
        self.assertIsNot(got, before)
        got.clear()
        self.assertEqual(derived(form), before)
        self.derives(form)
        self.assertEqual(form, cond(A, cond(B, A)))


class ByName(unittest.TestCase):
    def test_arguments_go_by_their_names(self):
        self.assertEqual(atoms(form=A), [A])
        self.assertEqual(refuter(form=A), [False])
        self.assertEqual(derived(form=cond(NO, NO)), derived(cond(NO, NO)))


if __name__ == "__main__":
    unittest.main()
