"""Each seal is so in every world: where the axioms of its bases and its assumptions hold, its conclusion holds."""

import itertools
import random
import unittest

from surehall.deeds import played
from surehall.errors import HallError
from surehall.hall import Hall
from surehall.truths import derived, refuter
from surehall.words import alls, closed, knots, lifted, put
from surehall.worlds import World
from tests.making import NO, cond, every, fun, negated, rel, same, small_forms, var

STEPS = ("assume", "drop", "apply", "clash", "every", "one", "alike", "swap", "more", "axiom")


def random_term(chance, depth=1):
    pick = chance.randrange(5)
    if depth < 1 or pick < 3:
        return var(chance.choice((0, 0, 1, 1, 2)))
    if pick == 3:
        return fun("c")
    return fun("f", random_term(chance, depth - 1))


def random_form(chance, depth=2):
    pick = chance.randrange(9) if depth > 0 else chance.randrange(5)
    if pick == 0:
        return NO
    if pick == 1:
        return rel("p")
    if pick == 2:
        return same(random_term(chance), random_term(chance))
    if pick == 3:
        return rel("q", random_term(chance))
    if pick == 4:
        return rel("r", random_term(chance), random_term(chance))
    if pick < 7:
        return every(random_form(chance, depth - 1))
    return cond(random_form(chance, depth - 1), random_form(chance, depth - 1))


def random_world(chance):
    size = chance.randrange(1, 4)
    world = World(size)
    for count, name in ((0, "c"), (1, "f")):
        for row in itertools.product(range(size), repeat=count):
            world.means(name, list(row), chance.randrange(size))
    for count, name in ((0, "p"), (1, "q"), (2, "r")):
        for row in itertools.product(range(size), repeat=count):
            world.so(name, list(row), chance.randrange(3) > 0)
    return world


def opened(chance, form, a):
    """A form into which the term a is put so that the given form comes out: some places of a are left as they are."""
    lifted_a = lifted(same(a, a))[1]

    def turned(word, depth):
        here = word[0] in ("var", "fun") and word == lifted_under(lifted_a, depth)
        if here and chance.randrange(3) > 0:
            return var(depth)
        if word[0] == "var":
            return word
        if word[0] in ("fun", "rel"):
            return (word[0], word[1], tuple(turned(part, depth) for part in word[2]))
        return (word[0],) + tuple(turned(part, depth + (word[0] == "all")) for part in word[1:])

    return turned(lifted(form), 0)


def lifted_under(term, depth):
    equation = same(term, term)
    for _ in range(depth):
        equation = lifted(equation)
    return equation[1]


class Player:
    """Goes through steps by chance, and counts those that were not refused."""

    def __init__(self, seed):
        self.chance = random.Random(seed)
        self.hall = Hall()
        self.made = dict.fromkeys(STEPS, 0)

    def form_at_hand(self):
        """A form of some seal, or a new one."""
        if self.hall.many() > 0 and self.chance.randrange(3) > 0:
            assumptions, conclusion = self.hall.told(self.chance.randrange(self.hall.many()))
            return self.chance.choice(assumptions + [conclusion])
        return random_form(self.chance)

    def number(self, kind=None):
        """A seal with a conclusion of that kind, where there is one."""
        numbers = list(range(self.hall.many()))
        fitting = [k for k in numbers if kind is None or self.hall.told(k)[1][0] == kind]
        return self.chance.choice(fitting or numbers)

    def number_of(self, form):
        numbers = [k for k in range(self.hall.many()) if self.hall.told(k)[1] == form]
        return self.chance.choice(numbers) if numbers else self.hall.assume(form)

    def step(self, name):
        hall = self.hall
        if name == "assume":
            return hall.assume(self.form_at_hand())
        if name == "alike":
            return hall.alike(random_term(self.chance))
        if name == "axiom":
            form = self.form_at_hand()
            while not closed(form):
                form = every(form)
            return hall.axiom(form)
        if name == "drop":
            return hall.drop(self.number(), self.form_at_hand())
        if name == "clash":
            number = self.number("no")
            denied = [form[1] for form in hall.told(number)[0] if form[0] == "if" and form[2] == NO]
            return hall.clash(number, self.chance.choice(denied + [self.form_at_hand()]))
        if name == "every":
            return hall.every(self.number())
        if name == "one":
            return hall.one(self.number("all"), random_term(self.chance))
        if name == "more":
            return hall.more(self.number(), self.form_at_hand())
        if name == "apply":
            number = self.number("if")
            return hall.apply(number, self.number_of(hall.told(number)[1][1]))
        number = self.number("same")
        other = self.number()
        return hall.swap(number, other, opened(self.chance, hall.told(other)[1], hall.told(number)[1][1]))

    def go(self, times):
        self.hall.assume(random_form(self.chance))
        for _ in range(times):
            name = self.chance.choice(STEPS)
            try:
                number = self.step(name)
            except (HallError, IndexError):  # a step that does not fit, or for which no seal is of the right kind
                continue
            if knots(self.hall.told(number)[1]) < 60:
                self.made[name] += 1


def lists_of(chance, world):
    return [[]] + [[chance.randrange(world.size) for _ in range(length)] for length in (1, 2, 3, 4)]


class EachSealIsSo(unittest.TestCase):
    def counted(self, hall, number, world, things):
        """Whether all that the seal asks for holds there; if so, its conclusion must hold."""
        assumptions, conclusion = hall.told(number)
        stated = hall.axioms()
        if not all(world.holds(stated[base], []) for base in hall.bases(number)):
            return False
        if not all(world.holds(form, things) for form in assumptions):
            return False
        self.assertTrue(world.holds(conclusion, things), (number, assumptions, conclusion, things))
        return True

    def light(self, hall, number):
        assumptions, conclusion = hall.told(number)
        return all(alls(form) <= 4 and knots(form) < 60 for form in assumptions + [conclusion])

    def test_seals_made_by_chance(self):
        made = dict.fromkeys(STEPS, 0)
        met = 0
        for seed in range(60):
            player = Player(seed)
            player.go(60)
            for name in STEPS:
                made[name] += player.made[name]
            worlds = [random_world(player.chance) for _ in range(6)]
            for number in range(player.hall.many()):
                if self.light(player.hall, number):
                    for world in worlds:
                        for things in lists_of(player.chance, world):
                            met += self.counted(player.hall, number, world, things)
        for name in STEPS:
            self.assertGreater(made[name], 50, name)
        self.assertGreater(met, 10000)

    def test_one_and_swap_mean_what_they_say(self):
        chance = random.Random(5)
        worlds = [random_world(chance) for _ in range(4)]
        terms = (var(0), var(1), fun("c"), fun("f", var(1)))
        for form in small_forms():
            hall = Hall()
            for a in terms:
                hall.one(hall.assume(every(form)), a)
                for b in terms:
                    hall.swap(hall.assume(same(a, b)), hall.assume(put(form, a)), form)
            for number in range(hall.many()):
                for world in worlds:
                    things = [chance.randrange(world.size) for _ in range(3)]
                    self.counted(hall, number, world, things)

    def test_what_is_derived_holds_in_every_world(self):
        chance = random.Random(9)
        found = 0
        while found < 40:
            form = random_form(chance, 5)
            if knots(form) > 60 or form[0] != "if":
                continue
            try:
                row = derived(form)
            except HallError:
                continue
            found += 1
            hall = Hall()
            number = played(hall, row)[-1]
            self.assertEqual(hall.told(number), ([], form))
            for _ in range(4):
                world = random_world(chance)
                for things in lists_of(chance, world):
                    self.assertTrue(self.counted(hall, number, world, things))

    def test_a_form_that_fails_in_a_world_has_a_refuter(self):
        chance = random.Random(2)
        for _ in range(600):
            form = random_form(chance, 3)
            world = random_world(chance)
            if not world.holds(form, [0, 0, 0]):
                self.assertIsNotNone(refuter(form))

    def test_what_does_not_follow_is_not_sealed(self):
        q = rel("q", var(0))
        hall = Hall()
        number = hall.assume(q)
        with self.assertRaises(HallError):
            hall.every(number)
        with self.assertRaises(HallError):
            hall.axiom(q)
        with self.assertRaises(HallError):
            hall.clash(number, negated(q))
        self.assertEqual(hall.many(), 1)


if __name__ == "__main__":
    unittest.main()
