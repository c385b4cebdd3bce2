import copy
import unittest

from surehall.errors import HallError, NoSeal, NoThing, NoWord, TooLarge, Unfit
from surehall.words import alls, closed, deep, knots, lifted, lowered, put, raised, stands
from tests.making import (
    NO, cond, deep_form, deep_term, every, fun, rel, same, small_forms, small_terms, var, wide_form, wide_term,
)


class Knots(unittest.TestCase):
    def test_each_make_of_term(self):
        self.assertEqual(knots(var(0)), 1)
        self.assertEqual(knots(var(999)), 1)
        self.assertEqual(knots(fun("c")), 1)
        self.assertEqual(knots(fun("f", var(0))), 2)
        self.assertEqual(knots(fun("g", var(0), fun("c"), fun("f", var(2)))), 5)

    def test_each_make_of_form(self):
        self.assertEqual(knots(NO), 1)
        self.assertEqual(knots(rel("p")), 1)
        self.assertEqual(knots(rel("q", var(0), fun("f", var(1)), fun("c"))), 5)
        self.assertEqual(knots(same(var(0), fun("c"))), 3)
        self.assertEqual(knots(cond(NO, rel("p"))), 3)
        self.assertEqual(knots(every(NO)), 2)
        self.assertEqual(knots(every(cond(rel("q", var(0)), same(var(0), var(1))))), 7)

    def test_a_part_that_stands_twice_counts_twice(self):
        part = fun("f", var(0))
        self.assertEqual(knots(fun("g", part, part)), 5)
        self.assertEqual(knots(same(part, part)), 5)
        self.assertEqual(knots(cond(rel("q", part), rel("q", part))), 7)

    def test_names_do_not_count(self):
        self.assertEqual(knots(fun("abcdefghijkl", var(0))), 2)
        self.assertEqual(knots(rel("abcdefghijkl")), 1)

    def test_names_that_sound_like_makes(self):
        self.assertEqual(knots(fun("var", var(3))), 2)
        self.assertEqual(knots(rel("all", fun("no"))), 2)
        self.assertEqual(knots(rel("var")), 1)

    def test_three_hundred_knots_and_somewhat_beyond(self):
        def with_leaves(many):
            if many == 1:
                return NO
            return cond(with_leaves(many // 2), with_leaves(many - many // 2))

        self.assertEqual(knots(with_leaves(150)), 299)
        self.assertEqual(knots(every(with_leaves(150))), 300)
        self.assertEqual(knots(with_leaves(200)), 399)
        term = var(0)
        for depth in range(1, 6):
            term = fun("g", term, term, term)
            self.assertEqual(knots(term), (3 ** (depth + 1) - 1) // 2)

    def test_sixty_deep_and_somewhat_beyond(self):
        for depth in (1, 59, 60, 61, 120):
            self.assertEqual(knots(deep_term(depth, var(0))), depth)
            self.assertEqual(knots(deep_form(depth, NO)), 2 * depth - 1)

    def test_six_alls_within_one_another_and_more(self):
        for times in (6, 7, 10):
            self.assertEqual(knots(every(rel("q", var(0)), times)), times + 2)

    def test_it_answers_a_whole_number(self):
        self.assertIs(type(knots(NO)), int)


    def test_the_makers_of_the_tests_make_what_they_say(self):
        for count in (1, 2, 3, 4, 5, 149, 150, 299, 300, 301):
            self.assertEqual(knots(wide_form(count)), count)
            self.assertEqual(knots(wide_term(count)), count)


class Depths(unittest.TestCase):
    def test_one_deep(self):
        for word in (var(0), var(999), fun("c"), NO, rel("p")):
            self.assertEqual(deep(word), 1)

    def test_one_and_the_greatest_depth_of_the_parts(self):
        self.assertEqual(deep(fun("g", var(0), fun("f", fun("c")))), 3)
        self.assertEqual(deep(rel("q", fun("f", var(0)), var(1))), 3)
        self.assertEqual(deep(same(var(0), fun("f", var(0)))), 3)
        self.assertEqual(deep(same(fun("f", var(0)), var(0))), 3)
        self.assertEqual(deep(cond(NO, every(rel("p")))), 3)
        self.assertEqual(deep(cond(every(rel("p")), NO)), 3)
        self.assertEqual(deep(every(NO, 6)), 7)
        for depth in (1, 59, 60, 61, 120):
            self.assertEqual(deep(deep_term(depth, var(0))), depth)
            self.assertEqual(deep(deep_form(depth, NO)), depth)

    def test_alls_within_one_another(self):
        self.assertEqual(alls(NO), 0)
        self.assertEqual(alls(rel("all", fun("all", var(0)))), 0)
        self.assertEqual(alls(every(NO)), 1)
        self.assertEqual(alls(every(NO, 7)), 7)
        self.assertEqual(alls(cond(every(NO, 2), every(NO, 3))), 3)
        self.assertEqual(alls(cond(every(NO, 3), every(NO, 2))), 3)
        self.assertEqual(alls(every(cond(NO, every(cond(every(NO), NO))))), 3)


class Closed(unittest.TestCase):
    def test_just_where_no_free_number_stands(self):
        for form in small_forms():
            self.assertIs(closed(form), not any(stands(form, number) for number in range(10)))

    def test_great_numbers(self):
        self.assertIs(closed(rel("q", var(999))), False)
        self.assertIs(closed(every(rel("q", var(5), var(6)), 6)), False)
        self.assertIs(closed(every(rel("q", var(5), var(0)), 6)), True)


class Stands(unittest.TestCase):
    def test_without_an_all_the_number_is_the_free_number(self):
        for form in (rel("q", var(2)), same(var(2), fun("c")), same(fun("c"), var(2)), cond(NO, rel("q", var(2))),
                     cond(rel("q", var(2)), NO), rel("q", fun("c"), fun("c"), fun("f", fun("f", var(2))))):
            self.assertIs(stands(form, 2), True)
            self.assertIs(stands(form, 1), False)
            self.assertIs(stands(form, 3), False)
            self.assertIs(stands(form, 0), False)

    def test_where_no_var_stands(self):
        for form in (NO, rel("p"), rel("q", fun("c")), every(NO), every(rel("q", fun("c")), 6)):
            for number in (0, 1, 999):
                self.assertIs(stands(form, number), False)

    def test_a_var_that_belongs_to_an_all_is_not_free(self):
        self.assertIs(stands(every(rel("q", var(0))), 0), False)
        self.assertIs(stands(every(rel("q", var(0), var(1), var(2)), 3), 0), False)
        self.assertIs(stands(every(rel("q", var(0), var(1), var(2)), 3), 1), False)
        self.assertIs(stands(every(rel("q", var(0), var(1), var(2)), 3), 2), False)

    def test_the_free_number_is_less_by_the_alls_around(self):
        for times in range(8):
            form = every(rel("q", var(times + 3)), times)
            for number in range(12):
                self.assertIs(stands(form, number), number == 3)

    def test_the_free_number_nought_within_several_alls(self):
        for times in range(8):
            self.assertIs(stands(every(rel("q", var(times)), times), 0), True)
            self.assertIs(stands(every(rel("q", var(times)), times + 1), 0), False)

    def test_the_same_number_bound_beside_free(self):
        form = cond(every(rel("q", var(0))), rel("q", var(0)))
        self.assertIs(stands(form, 0), True)
        self.assertIs(stands(every(form), 0), False)
        form = cond(rel("q", var(1)), every(rel("q", var(1))))
        self.assertIs(stands(form, 0), True)
        self.assertIs(stands(form, 1), True)
        self.assertIs(stands(form, 2), False)

    def test_an_all_reaches_no_further_than_its_own_form(self):
        form = cond(every(rel("q", var(0))), rel("q", var(1)))
        self.assertIs(stands(form, 0), False)
        self.assertIs(stands(form, 1), True)

    def test_great_numbers(self):
        self.assertIs(stands(rel("q", var(999)), 999), True)
        self.assertIs(stands(every(rel("q", var(999)), 6), 993), True)
        self.assertIs(stands(every(rel("q", var(999)), 6), 999), False)
        self.assertIs(stands(rel("q", var(1234)), 1234), True)

    def test_no_var_has_a_free_number_below_nought(self):
        self.assertIs(stands(every(rel("q", var(0))), -1), False)
        self.assertIs(stands(rel("q", var(0)), -1), False)

    def test_deep_forms(self):
        for depth in (60, 120):
            self.assertIs(stands(deep_form(depth, rel("q", var(4))), 4), True)
            self.assertIs(stands(rel("q", deep_term(depth, var(4))), 4), True)
            self.assertIs(stands(rel("q", deep_term(depth, var(4))), 5), False)


class Raised(unittest.TestCase):
    def test_each_var_is_greater_by_so_much(self):
        self.assertEqual(raised(var(0), 1), var(1))
        self.assertEqual(raised(var(7), 5), var(12))
        self.assertEqual(raised(fun("g", var(0), fun("f", var(3)), var(0)), 2),
                         fun("g", var(2), fun("f", var(5)), var(2)))

    def test_by_nought(self):
        for term in small_terms():
            self.assertEqual(raised(term, 0), term)

    def test_by_ninety_nine_and_beyond(self):
        self.assertEqual(raised(fun("g", var(0), var(999)), 99), fun("g", var(99), var(1098)))
        self.assertEqual(raised(var(999), 150), var(1149))

    def test_a_name_without_parts_stays(self):
        self.assertEqual(raised(fun("c"), 99), fun("c"))
        self.assertEqual(raised(fun("f", fun("c")), 99), fun("f", fun("c")))

    def test_twice_is_by_both_together(self):
        for term in small_terms():
            self.assertEqual(raised(raised(term, 4), 9), raised(term, 13))

    def test_deep_terms(self):
        for depth in (60, 120):
            self.assertEqual(raised(deep_term(depth, var(1)), 99), deep_term(depth, var(100)))

    def test_three_parts_and_one_more(self):
        self.assertEqual(raised(fun("g", var(0), var(1), var(2)), 1), fun("g", var(1), var(2), var(3)))
        self.assertEqual(raised(fun("g", var(0), var(1), var(2), var(3)), 1), fun("g", var(1), var(2), var(3), var(4)))


class Lifted(unittest.TestCase):
    def test_each_free_var_is_one_greater(self):
        self.assertEqual(lifted(rel("q", var(0), fun("f", var(1)))), rel("q", var(1), fun("f", var(2))))
        self.assertEqual(lifted(same(var(0), var(5))), same(var(1), var(6)))
        self.assertEqual(lifted(cond(rel("q", var(0)), rel("q", var(2)))), cond(rel("q", var(1)), rel("q", var(3))))
        self.assertEqual(lifted(rel("q", var(999))), rel("q", var(1000)))

    def test_forms_without_vars_stay(self):
        for form in (NO, rel("p"), rel("q", fun("c")), every(NO), every(cond(NO, rel("q", fun("c"))), 6)):
            self.assertEqual(lifted(form), form)

    def test_vars_that_belong_to_an_all_stay(self):
        self.assertEqual(lifted(every(rel("q", var(0), var(1)))), every(rel("q", var(0), var(2))))
        self.assertEqual(lifted(every(rel("q", var(0), var(1), var(2)), 2)),
                         every(rel("q", var(0), var(1), var(3)), 2))

    def test_the_same_number_bound_beside_free(self):
        self.assertEqual(lifted(cond(every(rel("q", var(0))), rel("q", var(0)))),
                         cond(every(rel("q", var(0))), rel("q", var(1))))
        self.assertEqual(lifted(cond(rel("q", var(0)), every(rel("q", var(0))))),
                         cond(rel("q", var(1)), every(rel("q", var(0)))))

    def test_nought_within_several_alls(self):
        for times in range(8):
            self.assertEqual(lifted(every(rel("q", var(times)), times)), every(rel("q", var(times + 1)), times))

    def test_a_lifted_form_has_each_free_number_one_greater(self):
        for form in small_forms():
            self.assertIs(stands(lifted(form), 0), False)
            for number in range(8):
                self.assertIs(stands(lifted(form), number + 1), stands(form, number))

    def test_deep_forms(self):
        for depth in (60, 120):
            self.assertEqual(lifted(deep_form(depth, rel("q", var(4)))), deep_form(depth, rel("q", var(5))))


class Lowered(unittest.TestCase):
    def test_each_free_var_is_one_less(self):
        self.assertEqual(lowered(rel("q", var(1), fun("f", var(2)))), rel("q", var(0), fun("f", var(1))))
        self.assertEqual(lowered(same(var(1), var(999))), same(var(0), var(998)))
        self.assertEqual(lowered(cond(rel("q", var(3)), rel("q", var(1)))), cond(rel("q", var(2)), rel("q", var(0))))

    def test_forms_without_vars_stay(self):
        for form in (NO, rel("p"), rel("q", fun("c")), every(NO), every(cond(NO, rel("q", fun("c"))), 6)):
            self.assertEqual(lowered(form), form)

    def test_vars_that_belong_to_an_all_stay(self):
        self.assertEqual(lowered(every(rel("q", var(0)))), every(rel("q", var(0))))
        self.assertEqual(lowered(every(rel("q", var(0), var(2)))), every(rel("q", var(0), var(1))))
        self.assertEqual(lowered(cond(every(rel("q", var(0))), rel("q", var(1)))),
                         cond(every(rel("q", var(0))), rel("q", var(0))))

    def test_where_the_free_number_nought_stands_it_is_refused(self):
        for form in (rel("q", var(0)), same(fun("c"), var(0)), same(var(0), fun("c")), cond(NO, rel("q", var(0))),
                     cond(rel("q", var(0)), NO), rel("q", var(3), fun("f", var(0))),
                     cond(every(rel("q", var(0))), rel("q", var(0)))):
            with self.assertRaises(Unfit):
                lowered(form)

    def test_nought_within_several_alls(self):
        for times in range(8):
            with self.assertRaises(Unfit):
                lowered(every(rel("q", var(times)), times))
            self.assertEqual(lowered(every(rel("q", var(times + 1)), times)), every(rel("q", var(times)), times))

    def test_the_refusal_bears_no_other_name(self):
        with self.assertRaises(HallError) as caught:
            lowered(rel("q", var(0)))
        for other in (NoSeal, TooLarge, NoThing, NoWord):
            self.assertNotIsInstance(caught.exception, other)

    def test_what_was_lifted_is_lowered_to_itself(self):
        for form in small_forms():
            self.assertEqual(lowered(lifted(form)), form)

    def test_it_is_refused_just_where_nought_stands(self):
        for form in small_forms():
            if stands(form, 0):
                with self.assertRaises(Unfit):
                    lowered(form)
            else:
                self.assertEqual(lifted(lowered(form)), form)

    def test_deep_forms(self):
        for depth in (60, 120):
            self.assertEqual(lowered(deep_form(depth, rel("q", var(4)))), deep_form(depth, rel("q", var(3))))
            with self.assertRaises(Unfit):
                lowered(deep_form(depth, rel("q", var(0))))


class Put(unittest.TestCase):
    def test_the_free_number_nought_becomes_the_term(self):
        self.assertEqual(put(rel("q", var(0)), fun("c")), rel("q", fun("c")))
        self.assertEqual(put(same(var(0), fun("f", var(0))), fun("c")), same(fun("c"), fun("f", fun("c"))))
        self.assertEqual(put(cond(rel("q", var(0)), rel("q", var(0))), var(4)), cond(rel("q", var(4)), rel("q", var(4))))

    def test_the_other_free_numbers_become_one_less(self):
        self.assertEqual(put(rel("q", var(0), var(1), var(2)), fun("c")), rel("q", fun("c"), var(0), var(1)))
        self.assertEqual(put(rel("q", var(999)), var(999)), rel("q", var(998)))
        self.assertEqual(put(every(rel("q", var(2), var(3))), fun("c")), every(rel("q", var(1), var(2))))

    def test_the_terms_own_vars_are_not_made_less(self):
        self.assertEqual(put(rel("q", var(0), var(1)), fun("g", var(0), var(1))),
                         rel("q", fun("g", var(0), var(1)), var(0)))

    def test_under_one_and_more_alls_the_term_is_raised(self):
        term = fun("g", var(0), var(1), var(5))
        for times in range(8):
            form = every(rel("q", var(times), var(times + 1), var(times + 2)), times)
            self.assertEqual(put(form, term),
                             every(rel("q", raised(term, times), var(times), var(times + 1)), times))

    def test_under_two_alls_written_out(self):
        form = every(every(rel("q", var(0), var(1), fun("g", var(2), var(3)))))
        self.assertEqual(put(form, fun("f", var(0))),
                         every(every(rel("q", var(0), var(1), fun("g", fun("f", var(2)), var(2))))))

    def test_vars_that_belong_to_an_all_stay(self):
        self.assertEqual(put(every(rel("q", var(0))), fun("c")), every(rel("q", var(0))))
        self.assertEqual(put(every(rel("q", var(0), var(1), var(2)), 3), var(7)),
                         every(rel("q", var(0), var(1), var(2)), 3))

    def test_bound_beside_free_and_at_several_depths(self):
        form = cond(rel("q", var(0)), every(cond(rel("q", var(0)), every(rel("q", var(0), var(1), var(2))))))
        wanted = cond(rel("q", var(3)), every(cond(rel("q", var(0)), every(rel("q", var(0), var(1), var(5))))))
        self.assertEqual(put(form, var(3)), wanted)

    def test_forms_without_vars_stay(self):
        for form in (NO, rel("p"), rel("q", fun("c")), every(NO, 6)):
            self.assertEqual(put(form, var(0)), form)

    def test_into_a_lifted_form_nothing_is_put(self):
        for form in small_forms():
            for term in small_terms():
                self.assertEqual(put(lifted(form), term), form)

    def test_the_free_number_nought_put_under_lifted_others_is_the_form(self):
        for form in small_forms():
            opened = every(form)
            self.assertEqual(put(lifted(opened)[1], var(0)), form)

    def test_deep_and_large(self):
        for depth in (60, 100):
            term = deep_term(depth, var(2))
            form = every(deep_form(depth, rel("q", deep_term(depth, var(1)))))
            wanted = every(deep_form(depth, rel("q", deep_term(2 * depth - 1, var(3)))))
            self.assertEqual(put(form, term), wanted)

    def test_great_numbers(self):
        self.assertEqual(put(every(rel("q", var(1)), 1), var(999)), every(rel("q", var(1000))))
        self.assertEqual(put(every(rel("q", var(6)), 6), var(999)), every(rel("q", var(1005)), 6))


class HandedIn(unittest.TestCase):
    def test_nothing_handed_in_is_changed(self):
        for form in small_forms():
            before = copy.deepcopy(form)
            knots(form)
            lifted(form)
            stands(form, 0)
            put(form, fun("f", var(0)))
            lowered(lifted(form))
            self.assertEqual(form, before)

    def test_what_is_told_is_of_tuples_alone(self):
        def all_tuples(word):
            return isinstance(word, tuple) and all(
                all_tuples(part) for part in word if not isinstance(part, (int, str)))

        for form in small_forms():
            for told in (lifted(form), lowered(lifted(form)), put(form, fun("g", var(0), var(1)))):
                self.assertTrue(all_tuples(told), told)
        for term in small_terms():
            self.assertTrue(all_tuples(raised(term, 3)))


if __name__ == "__main__":
    unittest.main()
