"""How forms are written and read."""

import random
import unittest

from surehall.errors import NoWord
from surehall.notes import read, shown
from tests.making import NO, cond, deep_form, deep_term, every, fun, rel, same, small_forms, var

TWELVE = "abcdefghijkl"
ALL_LETTERS = ("abcdefghijkl", "mnopqrstuvwx", "yz")

# Each form with the text that writes it.
WRITTEN = (
    (NO, "!"),
    (rel("p"), "p[]"),
    (rel("q", var(0)), "q[#0]"),
    (rel("r", var(0), var(12), var(999)), "r[#0 #12 #999]"),
    (rel("q", fun("c")), "q[c()]"),
    (rel("q", fun("g", var(1), fun("f", fun("c")), var(0))), "q[g(#1 f(c()) #0)]"),
    (rel("r", fun("f", var(0)), fun("f", var(1))), "r[f(#0) f(#1)]"),
    (same(var(0), var(1)), "(#0 = #1)"),
    (same(fun("c"), var(10)), "(c() = #10)"),
    (same(var(10), fun("f", var(7), fun("c"))), "(#10 = f(#7 c()))"),
    (cond(NO, NO), "(! > !)"),
    (cond(rel("p"), rel("q", var(0))), "(p[] > q[#0])"),
    (cond(cond(rel("p"), NO), cond(NO, rel("p"))), "((p[] > !) > (! > p[]))"),
    (cond(same(var(0), var(0)), every(NO)), "((#0 = #0) > *!)"),
    (every(NO), "*!"),
    (every(rel("p"), 6), "******p[]"),
    (every(cond(rel("q", var(0)), NO)), "*(q[#0] > !)"),
    (cond(every(rel("q", var(0))), rel("q", var(0))), "(*q[#0] > q[#0])"),
    (every(same(var(0), fun("f", var(1)))), "*(#0 = f(#1))"),
    (rel(TWELVE, fun(TWELVE)), "abcdefghijkl[abcdefghijkl()]"),
    (rel("all", fun("no")), "all[no()]"),
    (rel("a", fun("a", fun("a"))), "a[a(a())]"),
)


def random_forms(seed, count):
    chance = random.Random(seed)
    names = ("a", "ab", "z", "same", TWELVE, "all")

    def parts(depth):
        return tuple(term(depth - 1) for _ in range(chance.randrange(4)))

    def term(depth):
        if depth < 1 or chance.randrange(3) == 0:
            return var(chance.choice((0, 1, 7, 9, 10, 42, 99, 100, 500, 999)))
        return ("fun", chance.choice(names), parts(depth))

    def form(depth):
        kind = chance.randrange(6) if depth > 0 else chance.randrange(3)
        if kind == 0:
            return NO
        if kind == 1:
            return ("rel", chance.choice(names), parts(depth))
        if kind == 2:
            return same(term(depth), term(depth))
        if kind == 3:
            return every(form(depth - 1))
        return cond(form(depth - 1), form(depth - 1))

    return [form(chance.randrange(5)) for _ in range(count)]


class Shown(unittest.TestCase):
    def test_each_make(self):
        for form, text in WRITTEN:
            self.assertEqual(shown(form), text)

    def test_it_is_a_text(self):
        self.assertIs(type(shown(NO)), str)

    def test_deep_and_wide_forms(self):
        self.assertEqual(shown(deep_form(60, NO)), "(! > " * 59 + "!" + ")" * 59)
        self.assertEqual(shown(rel("q", deep_term(60, var(3)))), "q[" + "f(" * 59 + "#3" + ")" * 59 + "]")
        self.assertEqual(shown(deep_form(100, NO)), "(! > " * 99 + "!" + ")" * 99)

    def test_each_number(self):
        for number in range(1000):
            self.assertEqual(shown(rel("q", var(number))), f"q[#{number}]")

    def test_no_two_forms_are_written_alike(self):
        forms = small_forms() + [form for form, _ in WRITTEN]
        self.assertEqual(len({shown(form) for form in forms}), len(set(forms)))


class Read(unittest.TestCase):
    def test_each_make(self):
        for form, text in WRITTEN:
            self.assertEqual(read(text), form)

    def test_what_is_written_is_read_to_the_same_form(self):
        for form in small_forms() + random_forms(3, 2000):
            self.assertEqual(read(shown(form)), form)

    def test_every_letter(self):
        for name in ALL_LETTERS:
            self.assertEqual(read(name + "[" + name + "()]"), rel(name, fun(name)))
            for letter in name:
                self.assertEqual(read(letter + "[]"), rel(letter))

    def test_each_number(self):
        for number in range(1000):
            self.assertEqual(read(f"q[#{number}]"), rel("q", var(number)))

    def test_sixty_openings_and_somewhat_more(self):
        for many in (59, 60, 80):
            self.assertEqual(read("(! > " * many + "!" + ")" * many), deep_form(many + 1, NO))
            self.assertEqual(read("q[" + "f(" * many + "#3" + ")" * many + "]"), rel("q", deep_term(many + 1, var(3))))
        left = NO
        for _ in range(60):
            left = cond(left, NO)
        self.assertEqual(read("(" * 60 + "!" + " > !)" * 60), left)

    def test_six_hundred_signs(self):
        text = "(abcdefghi[] > " * 37 + "abcdef[]" + ")" * 37
        self.assertEqual(len(text), 600)
        form = rel("abcdef")
        for _ in range(37):
            form = cond(rel("abcdefghi"), form)
        self.assertEqual(read(text), form)

    def test_parts_are_tuples(self):
        form = read("q[f(#0 #1)]")
        self.assertIs(type(form[2]), tuple)
        self.assertIs(type(form[2][0][2]), tuple)
        self.assertIs(type(form[2][0][2][0][1]), int)


class NotRead(unittest.TestCase):
    def refuses(self, text):
        with self.assertRaises(NoWord, msg=text) as caught:
            read(text)
        self.assertIs(type(caught.exception), NoWord)

    def test_an_empty_text_and_blanks(self):
        for text in ("", " ", "  "):
            self.refuses(text)

    def test_names_of_twelve_and_thirteen_letters(self):
        self.assertEqual(read(TWELVE + "[]"), rel(TWELVE))
        self.assertEqual(read("q[" + TWELVE + "()]"), rel("q", fun(TWELVE)))
        self.assertEqual(read("(" + TWELVE + "() = #0)"), same(fun(TWELVE), var(0)))
        self.assertEqual(read("(" + TWELVE + "[] > !)"), cond(rel(TWELVE), NO))
        for name in (TWELVE + "m", TWELVE * 2, TWELVE * 10):
            self.refuses(name + "[]")
            self.refuses("q[" + name + "()]")
            self.refuses("(" + name + "() = #0)")
            self.refuses("(#0 = " + name + "())")
            self.refuses("(" + name + "[] > !)")
            self.refuses("(! > " + name + "[])")
            self.refuses("*" + name + "[]")

    def test_names_of_other_signs_or_none(self):
        for name in ("", "P", "pQ", "p1", "1", "p_", "_", "p-q", "p q", "p.", "'p'", "Ab", "#", "p#"):
            self.refuses(name + "[]")
            self.refuses("q[" + name + "()]")

    def test_three_parts_and_four(self):
        self.assertEqual(read("q[#0 #1 #2]"), rel("q", var(0), var(1), var(2)))
        self.assertEqual(read("q[f(#0 #1 #2)]"), rel("q", fun("f", var(0), var(1), var(2))))
        self.refuses("q[#0 #1 #2 #3]")
        self.refuses("q[#0 #1 #2 #3 #4]")
        self.refuses("q[f(#0 #1 #2 #3)]")
        self.refuses("(f(#0 #1 #2 #3) = #0)")
        self.refuses("(#0 = f(c() c() c() c()))")
        self.refuses("q[#0 f(#0 #1 #2 #3)]")

    def test_numbers(self):
        for figures in ("0", "7", "10", "70", "100", "999"):
            self.assertEqual(read("q[#" + figures + "]"), rel("q", var(int(figures))))
            self.assertEqual(read("(#" + figures + " = #0)"), same(var(int(figures)), var(0)))
        for figures in ("00", "07", "000", "007", "070", "1000", "0999", "9999", "", "-1", "+1", "1_0", "a", " 1", "1.0",
                        "0x1", "#1"):
            self.refuses("q[#" + figures + "]")
            self.refuses("(#" + figures + " = #0)")
            self.refuses("(#0 = #" + figures + ")")
            self.refuses("q[f(#0 #" + figures + ")]")

    def test_a_blank_too_many_at_each_place(self):
        for form, text in WRITTEN:
            for place in range(len(text) + 1):
                self.refuses(text[:place] + " " + text[place:])

    def test_a_sign_too_few_at_each_place(self):
        for text in ("(p[] > q[#0])", "(#0 = f(#1 c()))", "*(! > r[#0 #1])", "((! > !) > *!)"):
            for place in range(len(text)):
                less = text[:place] + text[place + 1:]
                if text[place] == "*":
                    read(less)
                else:
                    self.refuses(less)

    def test_a_blank_too_few(self):
        for text in ("(p[]> !)", "(p[] >!)", "(p[]>!)", "(#0= #1)", "(#0 =#1)", "(#0=#1)", "r[#0#1]", "r[c()c()]",
                     "r[f(#0#1)]", "r[#0c()]"):
            self.refuses(text)

    def test_a_rest_behind_the_form(self):
        for form, text in WRITTEN:
            for rest in (" ", "!", ")", "]", "*", "p[]", " > !", text, "\n", "#0", "["):
                self.refuses(text + rest)

    def test_something_ahead_of_the_form(self):
        for form, text in WRITTEN:
            for ahead in (" ", "!", ")", "]", "(", "[", "#", "> "):
                self.refuses(ahead + text)

    def test_an_unclosed_text(self):
        for form, text in WRITTEN:
            for end in range(len(text)):
                self.refuses(text[:end])

    def test_openings_alone(self):
        for sign in ("(", "*", "f(", "q[", "q[f(", "(! > ", "(f(", "(#0 = ", "[", "!("):
            for many in (1, 2, 30, 60):
                self.refuses(sign * many)

    def test_a_term_in_the_place_of_a_form(self):
        for text in ("#0", "c()", "f(#0)", "*#0", "*c()", "(#0 > !)", "(! > #0)", "(c() > !)", "(! > c())", "(c() > c())",
                     "(p[] > f(#0))", "*f(#0)"):
            self.refuses(text)

    def test_a_form_in_the_place_of_a_term(self):
        for text in ("q[!]", "q[p[]]", "q[f(p[])]", "q[*!]", "q[(#0 = #0)]", "(! = !)", "(#0 = p[])", "(p[] = #0)",
                     "(p[] = p[])", "(#0 = !)", "q[f(!)]", "(*! = #0)", "((! > !) = #0)"):
            self.refuses(text)

    def test_brackets_of_the_other_kind(self):
        for text in ("q(#0]", "q[#0)", "q[f(#0]]", "q[f[#0)]", "q[f[#0]]", "[p[] > !]", "(p[] > !]", "{p[] > !}",
                     "(f(#0] = #0)", "q[c(])", "q{}"):
            self.refuses(text)

    def test_other_signs(self):
        for text in ("?", "p", "q[", "p]", "p[,]", "q[#0, #1]", "q[#0,#1]", "(p[] < q[])", "(#0 == #0)", "(p[] -> !)",
                     "(p[] >> !)", "(p[])", "(!)", "(#0)", "()", "( )", "[]", "~", "!!", "(! > ! > !)", "(#0 = #0 = #0)",
                     "(p[] = > !)", "(> !)", "(! >)", "(! > )", "(= #0)", "(#0 = )", "q[ ]", "q[f( )]", "* !", "*", "**",
                     "#", "##0", "&", "\"p[]\"", "(p[]>  !)"):
            self.refuses(text)

    def test_each_sign_in_the_place_of_each_other(self):
        signs = [chr(code) for code in range(ord(" "), ord("~") + 1) if chr(code) != "%"]
        for form, text in WRITTEN[:14]:
            for place in range(len(text)):
                for sign in signs:
                    other = text[:place] + sign + text[place + 1:]
                    try:
                        got = read(other)
                    except NoWord:
                        continue
                    self.assertEqual(shown(got), other)

    def test_a_refused_text_leaves_nothing_behind(self):
        self.refuses("(p[] > ")
        self.assertEqual(read("!"), NO)
        self.refuses("q[#0")
        self.assertEqual(read("p[]"), rel("p"))


class ByName(unittest.TestCase):
    def test_arguments_go_by_their_names(self):
        self.assertEqual(shown(form=NO), "!")
        self.assertEqual(read(text="!"), NO)


if __name__ == "__main__":
    unittest.main()
