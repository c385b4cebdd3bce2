"""Rows of deeds."""

import copy
import unittest

from surehall.deeds import played
from surehall.errors import NoSeal, TooLarge, Unfit
from surehall.hall import Hall
from tests.making import NO, cond, every, fun, negated, rel, same, var, whole, wide_form

P = rel("p")
Q = rel("q", var(0))
C = fun("c")

EVERY_STEP = [
    ("assume", Q),
    ("drop", 0, Q),
    ("apply", 1, 0),
    ("every", 1),
    ("one", 3, C),
    ("alike", C),
    ("assume", same(C, fun("d"))),
    ("swap", 6, 5, same(var(0), C)),
    ("more", 7, P),
    ("axiom", NO),
    ("clash", 9, P),
]


def by_hand(hall):
    """The steps of the row above, one by one, in a hall of no seals."""
    hall.assume(Q)
    hall.drop(0, Q)
    hall.apply(1, 0)
    hall.every(1)
    hall.one(3, C)
    hall.alike(C)
    hall.assume(same(C, fun("d")))
    hall.swap(6, 5, same(var(0), C))
    hall.more(7, P)
    hall.axiom(NO)
    hall.clash(9, P)


class Played(unittest.TestCase):
    def test_an_empty_row(self):
        hall = Hall()
        self.assertEqual(played(hall, []), [])
        self.assertEqual((hall.many(), hall.axioms()), (0, []))
        hall.assume(P)
        self.assertEqual(played(hall, []), [])
        self.assertEqual(hall.many(), 1)

    def test_each_step_in_a_new_hall(self):
        hall = Hall()
        self.assertEqual(played(hall, EVERY_STEP), list(range(11)))
        other = Hall()
        by_hand(other)
        self.assertEqual(whole(hall), whole(other))
        self.assertEqual(hall.axioms(), [NO])

    def test_each_step_by_what_it_makes(self):
        hall = Hall()
        played(hall, EVERY_STEP)
        conclusions = [hall.told(number)[1] for number in range(11)]
        self.assertEqual(conclusions, [
            Q, cond(Q, Q), Q, every(cond(Q, Q)), cond(rel("q", C), rel("q", C)), same(C, C), same(C, fun("d")),
            same(fun("d"), C), same(fun("d"), C), NO, P,
        ])
        self.assertEqual(hall.told(8)[0], [same(C, fun("d")), P])

    def test_in_a_hall_that_has_seals_already(self):
        hall = Hall()
        hall.assume(P)
        hall.axiom(P)
        hall.assume(cond(NO, P))
        self.assertEqual(played(hall, EVERY_STEP), list(range(3, 14)))
        fresh = Hall()
        played(fresh, EVERY_STEP)
        for number in range(11):
            self.assertEqual(hall.told(number + 3), fresh.told(number))
            self.assertEqual(hall.stood(number + 3), [k + 3 for k in fresh.stood(number)])
            self.assertEqual(hall.bases(number + 3), [k + 1 for k in fresh.bases(number)])
        self.assertEqual(hall.axioms(), [P, NO])

    def test_places_are_of_the_row_and_not_of_the_hall(self):
        hall = Hall()
        hall.assume(NO)
        hall.assume(NO)
        self.assertEqual(played(hall, [("assume", P), ("more", 0, Q)]), [2, 3])
        self.assertEqual(hall.told(3), ([P, Q], P))

    def test_one_row_played_twice(self):
        hall = Hall()
        row = [("assume", P), ("drop", 0, P), ("apply", 1, 0)]
        self.assertEqual(played(hall, row), [0, 1, 2])
        self.assertEqual(played(hall, row), [3, 4, 5])
        self.assertEqual(hall.stood(5), [3, 4, 5])

    def test_one_place_given_twice(self):
        hall = Hall()
        played(hall, [("assume", same(C, fun("d"))), ("swap", 0, 0, same(var(0), fun("d")))])
        self.assertEqual(hall.told(1), ([same(C, fun("d"))], same(fun("d"), fun("d"))))

    def test_arguments_go_by_their_names(self):
        hall = Hall()
        self.assertEqual(played(hall=hall, deeds=[("assume", P)]), [0])


class RefusedDeeds(unittest.TestCase):
    def refuses(self, error, row, done):
        """The row is refused at the place told by done, the deeds ahead of it stay done, those behind are not."""
        for before in (0, 2):
            hall = Hall()
            for _ in range(before):
                hall.axiom(NO)
            with self.assertRaises(error) as caught:
                played(hall, row)
            self.assertIs(type(caught.exception), error)
            other = Hall()
            for _ in range(before):
                other.axiom(NO)
            self.assertEqual(played(other, row[:done]), list(range(before, before + done)))
            self.assertEqual(whole(hall), whole(other))

    def test_at_the_first_a_middle_and_the_last_place(self):
        sound = [("assume", Q), ("axiom", P), ("drop", 0, Q), ("assume", NO)]
        for place in range(5):
            for bad, error in ((("axiom", Q), Unfit), (("assume", wide_form(301)), TooLarge), (("every", -1), NoSeal)):
                self.refuses(error, sound[:place] + [bad] + sound[place:], place)

    def test_a_place_below_nought(self):
        ahead = [("assume", P), ("assume", cond(P, P)), ("assume", NO), ("assume", every(Q)), ("assume", same(C, C))]
        for place in (-1, -2, -5, -6, -100):
            for bad in (("drop", place, P), ("apply", place, 0), ("apply", 1, place), ("clash", place, P),
                        ("every", place), ("one", place, C), ("swap", place, 4, same(var(0), C)),
                        ("swap", 4, place, same(var(0), C)), ("more", place, P)):
                self.refuses(NoSeal, ahead + [bad, ("assume", P)], 5)

    def test_the_deeds_own_place_and_later_ones(self):
        ahead = [("assume", P), ("assume", cond(P, P)), ("assume", NO), ("assume", every(Q)), ("assume", same(C, C))]
        behind = [("assume", NO), ("assume", NO)]
        for place in (5, 6, 7, 8, 100):
            for bad in (("drop", place, P), ("apply", place, 0), ("apply", 1, place), ("clash", place, P),
                        ("every", place), ("one", place, C), ("swap", place, 4, same(var(0), C)),
                        ("swap", 4, place, same(var(0), C)), ("more", place, P)):
                self.refuses(NoSeal, ahead + [bad] + behind, 5)

    def test_a_seal_of_the_hall_that_the_row_did_not_make(self):
        hall = Hall()
        for _ in range(5):
            hall.assume(P)
        for place in (0, 1, 4):
            with self.assertRaises(NoSeal):
                played(hall, [("more", place, Q)])
        with self.assertRaises(NoSeal):
            played(hall, [("assume", NO), ("more", 1, Q)])
        self.assertEqual(hall.many(), 6)

    def test_the_last_place_ahead_is_not_refused(self):
        hall = Hall()
        self.assertEqual(played(hall, [("assume", P), ("more", 0, Q), ("more", 1, NO)]), [0, 1, 2])

    def test_no_seal_goes_ahead_of_the_other_refusals(self):
        ahead = [("assume", P), ("assume", NO)]
        for bad in (("apply", 0, 2), ("apply", 2, 0), ("apply", 0, -1), ("swap", 0, 2, Q), ("swap", -1, 0, Q),
                    ("drop", 2, wide_form(301)), ("clash", -1, wide_form(301)), ("apply", 7, 7)):
            self.refuses(NoSeal, ahead + [bad], 2)

    def test_each_step_that_does_not_fit(self):
        ahead = [("assume", P), ("assume", Q), ("assume", negated(P))]
        for bad in (("apply", 0, 1), ("apply", 2, 1), ("clash", 0, P), ("every", 1), ("one", 0, C), ("swap", 0, 1, Q),
                    ("axiom", Q), ("clash", 0, wide_form(301))):
            self.refuses(Unfit, ahead + [bad, ("assume", NO)], 3)

    def test_steps_that_would_be_too_large(self):
        ahead = [("assume", P), ("assume", NO), ("assume", every(P, 6))]
        for bad in (("assume", every(P, 7)), ("axiom", wide_form(301)), ("drop", 0, wide_form(299)),
                    ("clash", 1, wide_form(301)), ("every", 2)):
            self.refuses(TooLarge, ahead + [bad, ("assume", NO)], 3)

    def test_a_hall_goes_on_after_a_refused_row(self):
        hall = Hall()
        with self.assertRaises(Unfit):
            played(hall, [("axiom", P), ("axiom", Q), ("axiom", NO)])
        self.assertEqual(hall.axioms(), [P])
        self.assertEqual(played(hall, [("axiom", NO)]), [1])
        self.assertEqual(hall.bases(1), [1])


class HandedIn(unittest.TestCase):
    def test_the_row_is_not_changed_and_not_kept(self):
        row = copy.deepcopy(EVERY_STEP)
        hall = Hall()
        played(hall, row)
        self.assertEqual(row, EVERY_STEP)
        before = whole(hall)
        row.reverse()
        row.clear()
        self.assertEqual(whole(hall), before)

    def test_a_refused_row_is_not_changed(self):
        row = [("assume", P), ("every", 5), ("assume", P)]
        with self.assertRaises(NoSeal):
            played(Hall(), row)
        self.assertEqual(row, [("assume", P), ("every", 5), ("assume", P)])

    def test_the_numbers_are_the_askers_own(self):
        hall = Hall()
        first = played(hall, EVERY_STEP)
        before = whole(hall)
        first.clear()
        self.assertEqual(whole(hall), before)
        self.assertEqual(played(hall, EVERY_STEP), list(range(11, 22)))
        self.assertIsNot(played(hall, []), played(hall, []))

    def test_a_row_used_in_two_halls(self):
        first = Hall()
        second = Hall()
        self.assertEqual(played(first, EVERY_STEP), played(second, EVERY_STEP))
        self.assertEqual(whole(first), whole(second))


if __name__ == "__main__":
    unittest.main()
