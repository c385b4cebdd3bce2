import inspect
import itertools
import unittest

from surehall.errors import HallError, NoSeal, NoThing, NoWord, TooLarge, Unfit
from surehall.words import lifted, lowered, put, raised, stands
from surehall.worlds import World
from tests.making import NO, cond, deep_form, deep_term, every, fun, negated, rel, same, small_forms, small_terms, var


def some(form):
    return negated(every(negated(form)))


def told_world(size):
    """A world in which the names of the small forms and terms are told of, unevenly."""
    world = World(size)
    world.means("c", [], size - 1)
    world.so("p", [])
    for a in range(size):
        world.means("f", [a], (a * 3 + 1) % size)
        world.so("q", [a], a % 2 == 0)
        for b in range(size):
            world.means("g", [a, b], (2 * a + b + 1) % size)
            world.so("r", [a, b], (a + 2 * b) % 3 == 1)
    return world


class Means(unittest.TestCase):
    def test_what_was_told(self):
        world = World(4)
        self.assertIsNone(world.means("c", [], 3))
        self.assertIsNone(world.means("f", [3], 2))
        self.assertIsNone(world.means("g", [2, 3, 0], 1))
        self.assertEqual(world.value(fun("c"), []), 3)
        self.assertEqual(world.value(fun("f", fun("c")), []), 2)
        self.assertEqual(world.value(fun("g", fun("f", fun("c")), fun("c"), var(0)), [0]), 1)

    def test_nothing_told_means_nought(self):
        world = World(3)
        self.assertEqual(world.value(fun("c"), []), 0)
        self.assertEqual(world.value(fun("f", var(0)), [2]), 0)
        world.means("f", [1], 2)
        self.assertEqual(world.value(fun("f", var(0)), [2]), 0)
        self.assertEqual(world.value(fun("f", var(0)), [1]), 2)

    def test_the_order_of_the_row_counts(self):
        world = World(2)
        world.means("g", [0, 1], 1)
        self.assertEqual(world.value(fun("g", var(0), var(1)), [0, 1]), 1)
        self.assertEqual(world.value(fun("g", var(1), var(0)), [0, 1]), 0)

    def test_a_later_telling_takes_the_place_of_an_earlier_one(self):
        world = World(3)
        world.means("f", [1], 2)
        world.means("f", [2], 2)
        world.means("f", [1], 1)
        self.assertEqual(world.value(fun("f", var(0)), [1]), 1)
        self.assertEqual(world.value(fun("f", var(0)), [2]), 2)
        world.means("f", [1], 0)
        self.assertEqual(world.value(fun("f", var(0)), [1]), 0)

    def test_another_count_of_parts_is_another_name(self):
        world = World(3)
        world.means("a", [], 1)
        world.means("a", [0], 2)
        self.assertEqual(world.value(fun("a"), []), 1)
        self.assertEqual(world.value(fun("a", var(0)), [0]), 2)
        self.assertEqual(world.value(fun("a", var(0), var(0)), [0]), 0)

    def test_a_name_of_a_term_is_not_that_of_a_form(self):
        world = World(2)
        world.means("a", [1], 1)
        self.assertIs(world.holds(rel("a", var(0)), [1]), False)
        world.so("a", [0])
        self.assertEqual(world.value(fun("a", var(0)), [0]), 0)
        self.assertEqual(world.value(fun("a", var(0)), [1]), 1)
        self.assertIs(world.holds(rel("a", var(0)), [0]), True)

    def test_a_thing_that_is_not_there_among_the_parts(self):
        for size in (1, 2, 3, 4):
            for parts in ([size], [-1], [0, size], [size, 0], [0, 0, size], [0, -1, 0], [99], [-size]):
                with self.assertRaises(NoThing):
                    World(size).means("f", parts, 0)

    def test_a_thing_that_is_not_there_as_what_is_meant(self):
        for size in (1, 2, 3, 4):
            for thing in (size, size + 1, -1, -size):
                with self.assertRaises(NoThing):
                    World(size).means("f", [0], thing)
                with self.assertRaises(NoThing):
                    World(size).means("c", [], thing)

    def test_nothing_is_told_by_a_refused_telling(self):
        world = World(2)
        world.means("f", [0], 1)
        for parts, thing in (([0], 2), ([0], -1), ([2], 0), ([-1], 0)):
            with self.assertRaises(NoThing):
                world.means("f", parts, thing)
        self.assertEqual(world.value(fun("f", var(0)), [0]), 1)
        self.assertEqual(world.value(fun("f", var(0)), [1]), 0)

    def test_the_greatest_thing_is_there(self):
        for size in (1, 2, 3, 4):
            world = World(size)
            world.means("f", [size - 1], size - 1)
            self.assertEqual(world.value(fun("f", var(0)), [size - 1]), size - 1)


class So(unittest.TestCase):
    def test_what_was_told(self):
        world = World(4)
        self.assertIsNone(world.so("p", []))
        self.assertIsNone(world.so("q", [3], True))
        self.assertIsNone(world.so("r", [1, 2, 3], False))
        self.assertIs(world.holds(rel("p"), []), True)
        self.assertIs(world.holds(rel("q", var(0)), [3]), True)
        self.assertIs(world.holds(rel("q", var(0)), [2]), False)
        self.assertIs(world.holds(rel("r", var(0), var(1), var(2)), [1, 2, 3]), False)

    def test_nothing_told_is_not_so(self):
        world = World(2)
        self.assertIs(world.holds(rel("p"), []), False)
        self.assertIs(world.holds(rel("q", var(0), var(1)), [0, 1]), False)

    def test_the_answer_is_true_where_it_is_left_out(self):
        self.assertIs(inspect.signature(World.so).parameters["answer"].default, True)
        world = World(1)
        world.so("p", [])
        self.assertIs(world.holds(rel("p"), []), True)

    def test_the_arguments_go_by_their_names(self):
        world = World(things=2)
        world.means(name="f", parts=[0], thing=1)
        world.so(name="q", parts=[1], answer=True)
        self.assertEqual(world.value(term=fun("f", var(0)), things=[0]), 1)
        self.assertIs(world.holds(form=rel("q", var(0)), things=[1]), True)

    def test_a_later_telling_takes_the_place_of_an_earlier_one(self):
        world = World(2)
        world.so("q", [0])
        world.so("q", [1])
        world.so("q", [0], False)
        self.assertIs(world.holds(rel("q", var(0)), [0]), False)
        self.assertIs(world.holds(rel("q", var(0)), [1]), True)
        world.so("q", [0], True)
        self.assertIs(world.holds(rel("q", var(0)), [0]), True)

    def test_the_order_of_the_row_counts(self):
        world = World(2)
        world.so("r", [0, 1])
        self.assertIs(world.holds(rel("r", var(0), var(1)), [0, 1]), True)
        self.assertIs(world.holds(rel("r", var(1), var(0)), [0, 1]), False)

    def test_another_count_of_parts_is_another_name(self):
        world = World(2)
        world.so("a", [0])
        self.assertIs(world.holds(rel("a"), []), False)
        self.assertIs(world.holds(rel("a", var(0), var(0)), [0]), False)
        self.assertIs(world.holds(rel("a", var(0)), [0]), True)

    def test_a_thing_that_is_not_there(self):
        for size in (1, 2, 3, 4):
            for parts in ([size], [-1], [0, size], [size, 0], [0, 0, size], [0, -1, 0], [99], [-size]):
                for answer in (True, False):
                    with self.assertRaises(NoThing):
                        World(size).so("q", parts, answer)

    def test_nothing_is_told_by_a_refused_telling(self):
        world = World(2)
        world.so("r", [0, 1])
        for parts in ([0, 2], [2, 1], [-1, 1], [0, -1]):
            with self.assertRaises(NoThing):
                world.so("r", parts, False)
        self.assertIs(world.holds(rel("r", var(0), var(1)), [0, 1]), True)
        for a, b in ((0, 0), (1, 0), (1, 1)):
            self.assertIs(world.holds(rel("r", var(0), var(1)), [a, b]), False)


class Value(unittest.TestCase):
    def test_a_free_number_means_the_thing_at_its_place(self):
        world = World(4)
        for place, thing in enumerate([3, 1, 0, 2]):
            self.assertEqual(world.value(var(place), [3, 1, 0, 2]), thing)

    def test_where_the_list_is_not_so_long_it_means_nought(self):
        world = World(4)
        self.assertEqual(world.value(var(0), []), 0)
        self.assertEqual(world.value(var(2), [3, 3]), 0)
        self.assertEqual(world.value(var(999), [3, 3]), 0)
        world.means("f", [0], 2)
        self.assertEqual(world.value(fun("f", var(1)), [3]), 2)

    def test_twenty_things_and_somewhat_more(self):
        world = World(4)
        for length in (20, 25):
            things = [(place * place + 1) % 4 for place in range(length)]
            for place in range(length):
                self.assertEqual(world.value(var(place), things), things[place])
            self.assertEqual(world.value(var(length), things), 0)

    def test_a_thing_that_is_not_there_is_refused_though_nothing_asks_for_it(self):
        for size in (1, 2, 3, 4):
            world = World(size)
            for things in ([size], [-1], [0, size], [0, 0, -1], [0] * 19 + [size], [-size], [0] * 24 + [9]):
                for term in (fun("c"), var(0), var(40), fun("f", var(0))):
                    with self.assertRaises(NoThing):
                        world.value(term, things)

    def test_a_world_of_one_thing(self):
        world = World(1)
        world.means("f", [0], 0)
        self.assertEqual(world.value(fun("f", fun("c")), [0, 0]), 0)

    def test_deep_terms(self):
        world = World(3)
        for thing in range(3):
            world.means("f", [thing], (thing + 1) % 3)
        for depth in (60, 61, 120):
            self.assertEqual(world.value(deep_term(depth, var(0)), [2]), (2 + depth - 1) % 3)

    def test_a_raised_term_by_a_longer_list(self):
        for size in (1, 2, 3, 4):
            world = told_world(size)
            for things in itertools.product(range(size), repeat=3):
                for term in small_terms():
                    self.assertEqual(world.value(raised(term, 2), [size - 1, 0] + list(things)),
                                     world.value(term, list(things)))


class Holds(unittest.TestCase):
    def test_no_never(self):
        self.assertIs(World(1).holds(NO, []), False)
        self.assertIs(told_world(4).holds(NO, [3, 2]), False)

    def test_rel_where_it_is_so_of_its_terms_things(self):
        world = World(3)
        world.means("f", [1], 2)
        world.so("r", [2, 1])
        self.assertIs(world.holds(rel("r", fun("f", var(0)), var(0)), [1]), True)
        self.assertIs(world.holds(rel("r", fun("f", var(0)), var(0)), [2]), False)

    def test_same_where_both_terms_mean_one_thing(self):
        world = World(3)
        world.means("c", [], 2)
        self.assertIs(world.holds(same(var(0), fun("c")), [2]), True)
        self.assertIs(world.holds(same(var(0), fun("c")), [1]), False)
        self.assertIs(world.holds(same(fun("c"), fun("c")), []), True)
        self.assertIs(world.holds(same(var(0), var(1)), [1, 1]), True)
        self.assertIs(world.holds(same(var(0), var(1)), [1, 0]), False)
        self.assertIs(world.holds(same(var(0), fun("d")), []), True)

    def test_if_by_its_two_forms(self):
        world = World(1)
        world.so("p", [])
        yes = rel("p")
        for first, second, wanted in ((yes, yes, True), (yes, NO, False), (NO, yes, True), (NO, NO, True)):
            self.assertIs(world.holds(cond(first, second), []), wanted)

    def test_all_asks_each_thing_of_the_world(self):
        for size in (1, 2, 3, 4):
            for left_out in range(size):
                world = World(size)
                for thing in range(size):
                    world.so("q", [thing])
                self.assertIs(world.holds(every(rel("q", var(0))), []), True)
                world.so("q", [left_out], False)
                self.assertIs(world.holds(every(rel("q", var(0))), []), False)
                self.assertIs(world.holds(some(rel("q", var(0))), []), size > 1)

    def test_all_puts_its_thing_ahead_of_the_list(self):
        world = World(3)
        for thing in range(3):
            world.so("r", [thing, 2])
        self.assertIs(world.holds(every(rel("r", var(0), var(1))), [2]), True)
        self.assertIs(world.holds(every(rel("r", var(0), var(1))), [1]), False)
        self.assertIs(world.holds(every(rel("r", var(1), var(0))), [2]), False)
        self.assertIs(world.holds(every(rel("r", var(0), var(2))), [1, 2]), True)
        self.assertIs(world.holds(every(every(rel("r", var(1), var(2)))), [2]), True)

    def test_the_innermost_all_has_nought(self):
        world = World(2)
        world.so("r", [0, 1])
        world.so("r", [1, 0])
        self.assertIs(world.holds(every(some(rel("r", var(1), var(0)))), []), True)
        self.assertIs(world.holds(some(every(rel("r", var(1), var(0)))), []), False)
        world.so("r", [0, 0])
        self.assertIs(world.holds(some(every(rel("r", var(1), var(0)))), []), True)
        world.so("r", [1, 0], False)
        world.so("r", [1, 1], False)
        self.assertIs(world.holds(some(every(rel("r", var(0), var(1)))), []), False)

    def test_the_list_is_as_before_behind_an_all(self):
        world = World(2)
        world.so("q", [1])
        self.assertIs(world.holds(cond(every(same(var(0), var(0))), rel("q", var(0))), [1]), True)
        self.assertIs(world.holds(cond(every(same(var(0), var(0))), rel("q", var(0))), [0]), False)

    def test_a_list_shorter_than_the_free_numbers_within_all(self):
        world = World(3)
        for thing in range(3):
            world.so("r", [thing, 0])
        self.assertIs(world.holds(every(rel("r", var(0), var(1))), []), True)
        self.assertIs(world.holds(every(rel("r", var(0), var(2))), [2]), True)
        self.assertIs(world.holds(every(rel("r", var(0), var(1))), [2]), False)

    def test_all_in_a_world_of_one_thing(self):
        world = World(1)
        self.assertIs(world.holds(every(every(same(var(0), var(1)))), []), True)
        self.assertIs(World(2).holds(every(every(same(var(0), var(1)))), []), False)

    def test_how_many_things_there_are(self):
        def all_different(count):
            form = NO
            for a in range(count):
                for b in range(a):
                    form = cond(negated(same(var(a), var(b))), form)
            return negated(form)

        for size in (1, 2, 3, 4):
            for count in (1, 2, 3, 4):
                there_are = all_different(count)
                for _ in range(count):
                    there_are = some(there_are)
                self.assertIs(World(size).holds(there_are, []), size >= count)

    def test_a_thing_that_is_not_there_is_refused_though_nothing_asks_for_it(self):
        for size in (1, 2, 3, 4):
            world = World(size)
            for things in ([size], [-1], [0, size], [0, 0, -1], [0] * 19 + [size], [-size], [0] * 24 + [9]):
                for form in (NO, rel("p"), cond(NO, NO), every(rel("q", var(0))), same(var(40), fun("c"))):
                    with self.assertRaises(NoThing):
                        world.holds(form, things)

    def test_the_refusal_bears_no_other_name(self):
        world = World(2)
        for call in (lambda: world.means("f", [2], 0), lambda: world.so("q", [2]),
                     lambda: world.value(var(0), [2]), lambda: world.holds(NO, [2])):
            with self.assertRaises(HallError) as caught:
                call()
            self.assertIsInstance(caught.exception, NoThing)
            for other in (NoSeal, Unfit, TooLarge, NoWord):
                self.assertNotIsInstance(caught.exception, other)

    def test_twenty_things_and_somewhat_more(self):
        world = World(4)
        world.so("q", [3])
        for length in (20, 25):
            things = [0] * (length - 1) + [3]
            self.assertIs(world.holds(rel("q", var(length - 1)), things), True)
            self.assertIs(world.holds(every(rel("q", var(length))), things), True)
            self.assertIs(world.holds(every(rel("q", var(length - 1))), things), False)

    def test_deep_and_large_forms(self):
        world = World(4)
        world.so("q", [3])
        for depth in (60, 120):
            self.assertIs(world.holds(deep_form(depth, rel("q", var(0))), [3]), True)
            form = rel("q", var(0))
            for _ in range(depth - 1):
                form = cond(form, NO)
            self.assertIs(world.holds(form, [3]), depth % 2 == 1)
            self.assertIs(world.holds(form, [2]), depth % 2 == 0)

    def test_four_alls_and_somewhat_more(self):
        world = World(4)
        for row in itertools.product(range(4), repeat=3):
            world.so("r", list(row))
        for times in (4, 5, 6):
            self.assertIs(world.holds(every(rel("r", var(0), var(2), var(3)), times), []), True)
        world.so("r", [3, 3, 3], False)
        for times in (4, 5, 6):
            self.assertIs(world.holds(every(rel("r", var(0), var(2), var(3)), times), []), False)

    def test_five_things_are_not_refused(self):
        world = World(5)
        world.means("f", [4], 4)
        self.assertEqual(world.value(fun("f", var(0)), [4]), 4)
        for thing in range(4):
            world.so("q", [thing])
        self.assertIs(world.holds(every(rel("q", var(0))), []), False)
        world.so("q", [4])
        self.assertIs(world.holds(every(rel("q", var(0))), []), True)
        with self.assertRaises(NoThing):
            world.so("q", [5])

    def test_four_parts_and_long_names_are_not_refused(self):
        world = World(2)
        world.so("abcdefghijklmno", [0, 1, 0, 1])
        self.assertIs(world.holds(rel("abcdefghijklmno", var(0), var(1), var(0), var(1)), [0, 1]), True)


class WordsInWorlds(unittest.TestCase):
    """Moving and putting mean in every world what they ought to mean."""

    def test_a_term_put_into_a_form_holds_as_the_form_does_of_its_thing(self):
        for size in (1, 2, 3):
            world = told_world(size)
            for things in itertools.product(range(size), repeat=2):
                things = list(things)
                for term in small_terms():
                    longer = [world.value(term, things)] + things
                    for form in small_forms():
                        self.assertIs(world.holds(put(form, term), things), world.holds(form, longer), (form, term))

    def test_a_lifted_form_does_not_hang_on_the_first_thing(self):
        world = told_world(3)
        for things in itertools.product(range(3), repeat=2):
            for form in small_forms():
                for first in range(3):
                    self.assertIs(world.holds(lifted(form), [first] + list(things)), world.holds(form, list(things)))

    def test_a_lowered_form_holds_without_the_first_thing(self):
        world = told_world(3)
        for things in itertools.product(range(3), repeat=3):
            for form in small_forms():
                if not stands(form, 0):
                    self.assertIs(world.holds(lowered(form), list(things[1:])), world.holds(form, list(things)))


class HandedIn(unittest.TestCase):
    def test_a_list_that_is_changed_behind_the_call(self):
        world = World(3)
        parts = [1, 2]
        world.means("g", parts, 2)
        world.so("r", parts)
        parts[0] = 0
        parts.append(1)
        self.assertEqual(world.value(fun("g", var(0), var(1)), [1, 2]), 2)
        self.assertEqual(world.value(fun("g", var(0), var(1)), [0, 2]), 0)
        self.assertIs(world.holds(rel("r", var(0), var(1)), [1, 2]), True)
        self.assertIs(world.holds(rel("r", var(0), var(1)), [0, 2]), False)
        self.assertIs(world.holds(rel("r", var(0), var(1), var(2)), [0, 2, 1]), False)

    def test_one_list_told_of_again_and_again(self):
        world = World(3)
        parts = [0]
        for thing in range(3):
            parts[0] = thing
            world.means("f", parts, 2 - thing)
            world.so("q", parts, thing == 1)
        for thing in range(3):
            self.assertEqual(world.value(fun("f", var(0)), [thing]), 2 - thing)
            self.assertIs(world.holds(rel("q", var(0)), [thing]), thing == 1)

    def test_the_list_of_things_is_not_kept(self):
        world = World(3)
        world.so("q", [2])
        things = [2, 1]
        self.assertIs(world.holds(rel("q", var(0)), things), True)
        self.assertEqual(world.value(var(0), things), 2)
        things[0] = 1
        self.assertIs(world.holds(rel("q", var(0)), things), False)
        self.assertEqual(world.value(var(0), things), 1)
        self.assertEqual(world.value(var(0), []), 0)

    def test_no_list_is_changed(self):
        world = told_world(3)
        things = [2, 0, 1]
        for form in small_forms():
            world.holds(form, things)
        for term in small_terms():
            world.value(term, things)
        self.assertEqual(things, [2, 0, 1])
        parts = [2, 1]
        world.means("g", parts, 0)
        world.so("r", parts, False)
        self.assertEqual(parts, [2, 1])

    def test_no_list_is_changed_by_a_refusal(self):
        world = World(2)
        for call in (lambda row: world.means("g", row, 0), lambda row: world.so("r", row),
                     lambda row: world.value(var(0), row), lambda row: world.holds(NO, row)):
            row = [0, 2]
            with self.assertRaises(NoThing):
                call(row)
            self.assertEqual(row, [0, 2])

    def test_asking_tells_nothing(self):
        world = World(2)
        world.value(fun("f", var(0)), [1])
        world.holds(every(rel("q", var(0))), [])
        world.means("f", [1], 1)
        world.so("q", [1])
        self.assertEqual(world.value(fun("f", var(0)), [1]), 1)
        self.assertIs(world.holds(rel("q", var(0)), [1]), True)

    def test_worlds_do_not_share_what_is_told(self):
        first = World(2)
        second = World(2)
        first.means("f", [0], 1)
        first.so("q", [0])
        self.assertEqual(second.value(fun("f", var(0)), [0]), 0)
        self.assertIs(second.holds(rel("q", var(0)), [0]), False)


if __name__ == "__main__":
    unittest.main()
