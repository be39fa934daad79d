"""Promises [83] to [85]: claims, and for which values of a number they are so."""

import unittest
from fractions import Fraction
from random import Random

from formed import ALL, EMPTY, box, in_form, lone, points_of_line
from helping import NO_TUPLES, SolidCase, pair, told
from onesolid.deeds import rest
from onesolid.errors import NotHistory, NotName, NotPoint, TooGreat, Unlike
from onesolid.forms import form_of, need_form
from onesolid.histories import set_of
from onesolid.ranges import check_claim, is_so, range_of, stretch, turns_at
from telling import LED, PLANE, some_histories
from test_histories import NO_NAMES, OPEN

# A stretch from 0 to n, one from 1 to 3, and what is made of them.
LINE = (1, (("k", 1), ("n", 2)), (
    ("a", ("of", ("and", ("is", "ge", (1, 0)), ("is", "le", (1, (0, (("n", -1),))))))),
    ("b", ("of", box(1, 1, 3))),
    ("c", ("and", "a", "b")),
    ("d", ("moved", ((0, (("n", 1),)),), "b")),
    ("e", ("copies", 3, ((0, (("n", 1),)),), "b")),
    ("f", ("back", ((-1, 0),), "a")),
    ("g", ("along", (1,), "c")),
    ("h", ("always", (1,), "d")),
    ("none", ("less", "a", "a")),
    ("all", ("not", "none")),
    ("point", ("of", ("is", "eq", (2, (0, (("n", -3),)))))),
))
ON_ONE = ("empty", "all", "bounded")
ON_TWO = ("within", "equal", "apart")


def some_claims(random, names, dimension):
    one, other = random.choice(names), random.choice(names)
    point = tuple(random.randint(-3, 3) for _ in range(dimension)) + (1,)
    return [("empty", one), ("all", one), ("within", one, other), ("equal", one, other), ("apart", one, other),
            ("holds", one, point)]


def with_number(history, name, integer):
    return history[:1] + (tuple((own, integer if own == name else worth) for own, worth in history[1]),) + history[2:]


class Claims(SolidCase):

    def test_check(self):
        for claim in ([(word, "a") for word in ON_ONE] + [(word, "a", "b") for word in ON_TWO]
                      + [(word, "a", "a") for word in ON_TWO] + [("holds", "a", (1, 2))]):
            self.assertIs(check_claim(history=LINE, claim=claim), claim)
        self.assertIsNotNone(check_claim(PLANE, ("holds", "square", (1, 2, 3))))

    def calls(self):
        yield lambda claim: check_claim(LINE, claim)
        yield lambda claim: is_so(LINE, claim)
        for call in (range_of, stretch, turns_at):
            yield lambda claim, call=call: call(LINE, claim, None)

    def test_refusals(self):
        for call in self.calls():
            for value in NO_TUPLES + ((), ("empty",), ("empty", "a", "b"), ("within", "a"), ("within", "a", "b", "c"),
                                      ("holds", "a"),
                                      ("holds", "a", (1, 2), 3), ("Empty", "a"), ("volume", "a"), (None, "a"),
                                      ("", "a"),
                                      (("empty",), "a"), ["empty", "a"], ("not", ("empty", "a"))):
                self.refused(NotHistory, call, value, place=())
            for name in NO_NAMES + ("zz", "n", 3, ("a",)):
                for word in ON_ONE:
                    self.refused(NotName, call, (word, name), name=name)
                for word in ON_TWO:
                    self.refused(NotName, call, (word, name, "zzz"), name=name)
                    self.refused(NotName, call, (word, "a", name), name=name)
                self.refused(NotName, call, ("holds", name, None), name=name)
            for value in NO_TUPLES + ((), (1,), (1, 2, 3)):
                self.refused(NotPoint, call, ("holds", "a", value), place=-1)
            self.refused(NotPoint, call, ("holds", "a", (1, True)), place=1)
            self.refused(NotPoint, call, ("holds", "a", (1, 0)), place=1)
            self.refused(NotPoint, call, ("holds", "a", (2, 2)), place=-2)

    def test_is_so(self):
        for claim, wanted in ((("empty", "none"), True), (("empty", "a"), False), (("all", "all"), True),
                              (("all", "a"), False),
                              (("bounded", "a"), True), (("bounded", "none"), True), (("bounded", "all"), False),
                              (("bounded", "g"), False), (("within", "c", "a"), True), (("within", "a", "b"), False),
                              (("within", "none", "a"), True), (("equal", "a", "a"), True),
                              (("equal", "a", "b"), False),
                              (("apart", "a", "d"), True), (("apart", "a", "b"), False),
                              (("apart", "none", "none"), True),
                              (("holds", "a", (2, 1)), True), (("holds", "a", (5, 2)), False),
                              (("holds", "a", (0, 1)), True),
                              (("equal", "f", "none"), False)):
            self.assertIs(is_so(history=LINE, claim=claim), wanted)

    def test_is_so_too_great(self):
        dots = ("of", ("or",) + tuple(("is", "eq", (1, -k)) for k in range(31)))
        value = (1, (), (("a", dots), ("b", ("moved", (100,), "a")), ("c", ("or", "a", "b")), ("d", OPEN)))
        for word in ON_ONE:
            self.refused(TooGreat, is_so, value, (word, "c"), most=60)
        for word in ON_TWO:
            self.refused(TooGreat, is_so, value, (word, "c", "d"), most=60)
            self.refused(TooGreat, is_so, value, (word, "d", "c"), most=60)
        self.refused(TooGreat, is_so, value, ("holds", "c", (1, 2)), most=60)
        self.refused(NotPoint, is_so, value, ("holds", "c", (1, 0)), place=1)
        # Each for itself may be, but not what compares them; equal sets need no planes.
        self.refused(TooGreat, is_so, value, ("within", "a", "b"), most=60)
        self.refused(TooGreat, is_so, value, ("apart", "a", "b"), most=60)
        self.assertIs(is_so(value, ("equal", "a", "b")), False)
        self.assertIs(is_so(value, ("equal", "a", "a")), True)


class Ranges(SolidCase):

    def test_worked_by_hand(self):
        at_least = lambda number: form_of(1, ("is", "ge", (1, -number)))
        below = lambda number: form_of(1, ("is", "lt", (1, -number)))
        for claim, wanted in ((("empty", "a"), below(0)), (("empty", "b"), EMPTY[1]), (("all", "all"), ALL[1]),
                              (("empty", "c"), below(1)), (("within", "a", "b"), below(0)),
                              (("within", "b", "a"), at_least(3)),
                              (("equal", "c", "b"), at_least(3)), (("equal", "a", "none"), below(0)),
                              (("apart", "a", "b"), below(1)), (("holds", "a", (5, 2)),
                                                                form_of(1, ("is", "ge", (2, -5)))),
                              (("holds", "d", (4, 1)), form_of(1, box(1, 1, 3))),
                              (("holds", "e", (7, 1)), form_of(1, ("or", box(1, 2, 3), box(1, 4, 6)))),
                              (("equal", "d", "b"), form_of(1, lone(0))), (("equal", "e", "b"), form_of(1, lone(0))),
                              (("within", "f", "a"), form_of(1, ("is", "le", (1, 0)))), (("all", "g"), at_least(1)),
                              (("empty", "h"), ALL[1]), (("apart", "b", "d"), rest(form_of(1, box(1, -2, 2)))),
                              (("within", "point", "b"), form_of(1, ("and", ("is", "ge", (3, -2)),
                                                                     ("is", "le", (1, -2))))),
                              (("holds", "point", (1, 2)), form_of(1, ("is", "eq", (3, -1)))),
                              (("holds", "b", (2, 1)), ALL[1]), (("holds", "b", (9, 1)), EMPTY[1])):
            found = range_of(history=LINE, claim=claim, number="n")
            self.same(found, wanted)
            self.assertIs(need_form(found), found)
        # A number that nothing names.
        for claim in (("empty", "a"), ("within", "c", "a"), ("holds", "a", (1, 1)), ("equal", "a", "b")):
            self.same(range_of(LINE, claim, "k"), ALL[1] if is_so(LINE, claim) else EMPTY[1])
        # In the plane.
        self.same(range_of(PLANE, ("empty", "square"), "a"), form_of(1, ("is", "lt", (1, -1))))
        self.same(range_of(PLANE, ("holds", "square", (2, 2, 1)), "b"), form_of(1, ("is", "le", (1, 0))))
        self.same(range_of(PLANE, ("holds", "far", (33, 15, 2)), "a"),
                  form_of(1, ("and", ("is", "ge", (2, -13)), ("is", "le", (4, -15)))))

    def test_the_fact(self):
        random = Random(480)
        many = 0
        for dimension, how_many in ((1, 60), (2, 25)):
            for history in some_histories(dimension, how_many, 4, LED, 481):
                names = [name for name, _ in history[2]]
                for number, _ in history[1][:2]:
                    for claim in random.sample(some_claims(random, names, dimension), 3):
                        try:
                            found = range_of(history, claim, number)
                        except (TooGreat, Unlike):
                            continue
                        for integer in range(-5, 6):
                            try:
                                wanted = is_so(with_number(history, number, integer), claim)
                            except TooGreat:
                                continue
                            self.assertIs(in_form(found, [Fraction(integer)]), wanted,
                                          (history, claim, number, integer))
                            many += 1
                        self.stretches(history, claim, number, found)
        self.assertGreater(many, 800)

    def test_fractions(self):
        """A history with all its integers times 6 tells, at 6 times a value, 6 times the set."""
        for claim in (("empty", "c"), ("apart", "b", "d"), ("within", "point", "b"), ("equal", "d", "b"),
                      ("holds", "e", (1, 1))):
            found = range_of(LINE, claim, "n")
            scaled = (1, (("k", 1), ("n", 12)), tuple((name, self.scaled(telling)) for name, telling in LINE[2]))
            for sixths in range(-20, 44):
                other = claim if claim[0] != "holds" else ("holds", claim[1], (6, 1))
                wanted = is_so(with_number(scaled, "n", sixths), other)
                self.assertIs(in_form(found, [Fraction(sixths, 6)]), wanted)

    def scaled(self, telling):
        if telling[0] != "of":
            return telling
        return ("of", self.scaled_formula(telling[1]))

    def scaled_formula(self, formula):
        if formula[0] == "is":
            row = formula[2]
            last = row[-1] if isinstance(row[-1], tuple) else 6 * row[-1]
            return formula[:2] + (row[:-1] + (last,),)
        return formula[:1] + tuple(self.scaled_formula(part) for part in formula[1:])

    def stretches(self, history, claim, number, found):
        own = dict(history[1])[number]
        low, has_low, high, has_high = stretch(history=history, claim=claim, number=number)
        is_in = in_form(found, [Fraction(own)])
        self.assertTrue(low is None or told(low) < own or (told(low) == own and has_low))
        self.assertTrue(high is None or told(high) > own or (told(high) == own and has_high))
        turns = turns_at(history=history, claim=claim, number=number)
        self.assertEqual([told(turn) for turn in turns], sorted(Fraction(-last, first) for first, last in found[1]))
        for end, has_end, step in ((low, has_low, -1), (high, has_high, 1)):
            if end is None:
                self.assertIs(has_end, False)
                continue
            self.assertIn(end, turns)
            self.assertIs(in_form(found, [told(end)]), is_in == has_end)
            behind = told(end) + Fraction(step, 10 ** 9)
            if has_end:
                self.assertIs(in_form(found, [behind]), not is_in)
            if told(end) != own:
                self.assertIs(in_form(found, [told(end) - Fraction(step, 10 ** 9)]), is_in)
        for turn in turns:
            around = [in_form(found, [told(turn) + Fraction(step, 10 ** 9)]) for step in (-1, 0, 1)]
            self.assertEqual(len(set(around)), 2)
            inside = (low is None or told(low) < told(turn)) and (high is None or told(turn) < told(high))
            self.assertFalse(inside)

    def test_stretches_worked_by_hand(self):
        nothing = (None, False, None, False)
        for claim, wanted in ((("empty", "a"), ((0, 1), True, None, False)),
                              (("within", "b", "a"), (None, False, (3, 1), False)),
                              (("equal", "d", "b"), ((0, 1), False, None, False)), (("empty", "b"), nothing),
                              (("all", "all"), nothing),
                              (("holds", "e", (7, 1)), ((2, 1), True, (3, 1), True)),
                              (("apart", "b", "d"), ((-2, 1), True, (2, 1), True)),
                              (("holds", "point", (1, 2)), ((1, 3), False, None, False)),
                              (("holds", "point", (3, 1)), ((2, 1), True, (2, 1), True)),
                              (("within", "point", "b"), ((2, 3), True, (2, 1), True))):
            self.same(stretch(LINE, claim, "n"), wanted)
        for claim, wanted in ((("empty", "a"), ((0, 1),)), (("empty", "b"), ()),
                              (("holds", "e", (7, 1)), ((2, 1), (3, 1), (4, 1), (6, 1))),
                              (("equal", "d", "b"), ((0, 1),)), (("within", "point", "b"), ((2, 3), (2, 1)))):
            self.same(turns_at(LINE, claim, "n"), wanted)
        self.same(stretch(LINE, ("empty", "a"), "k"), nothing)
        self.same(turns_at(LINE, ("empty", "a"), "k"), ())
        # Around other integers.
        self.same(stretch(with_number(LINE, "n", 0), ("equal", "d", "b"), "n"), ((0, 1), True, (0, 1), True))
        self.same(stretch(with_number(LINE, "n", -1), ("equal", "d", "b"), "n"), (None, False, (0, 1), False))
        self.same(stretch(with_number(LINE, "n", 7), ("holds", "e", (7, 1)), "n"), ((6, 1), False, None, False))
        self.same(pair(Fraction(2, 3)), (2, 3))


class Refusals(SolidCase):

    def refuses(self, error, history, claim, number, **fields):
        for call in (range_of, stretch, turns_at):
            self.refused(error, call, history, claim, number, **fields)

    def test_numbers(self):
        for number in NO_NAMES + ("zz", "a", 3, ("n",)):
            self.refuses(NotName, LINE, ("empty", "a"), number, name=number)
            # Ahead of what makes it Unlike.
            self.refuses(NotName, LINE, ("bounded", "a"), number, name=number)
        self.refuses(NotName, LINE, ("empty", "zz"), "zz", name="zz")

    def test_words(self):
        self.refuses(Unlike, LINE, ("bounded", "a"), "n")
        self.refuses(Unlike, LINE, ("bounded", "a"), "k")
        for word in ("close", "inner", "rim", "sum", "shrunk", "hull"):
            telling = (word, "a", "b") if word in ("sum", "shrunk") else (word, "a")
            value = (1, LINE[1], (("a", OPEN), ("b", OPEN), ("c", telling), ("d", ("not", "c")),
                                  ("e", ("and", "a", "d"))))
            for claim in (("empty", "c"), ("empty", "d"), ("within", "a", "e"), ("equal", "c", "b"),
                          ("holds", "e", (0, 1))):
                self.refuses(Unlike, value, claim, "n")
            self.same(range_of(value, ("apart", "a", "b"), "n"), EMPTY[1])

    def test_dimensions(self):
        value = (3, (("n", 1),), (("a", OPEN),))
        self.refuses(Unlike, value, ("empty", "a"), "n")
        self.refuses(NotName, value, ("empty", "a"), "m", name="m")
        # A formula of dimension 4 within; of dimension 3 it may be.
        inside = ("is", "lt", (1, 0, 0, 1, (0, (("n", 1),))))
        deep = ("of", ("some", ("some", inside)))
        value = (2, (("n", 1),), (("a", deep), ("b", ("not", "a")), ("c", OPEN)))
        self.refuses(Unlike, value, ("empty", "b"), "n")
        self.same(range_of(value, ("empty", "c"), "n"), EMPTY[1])
        value = (2, (("n", 1),), (("a", ("of", ("back", ((1, 0, 0),) * 4, ("is", "lt", (1, 1, 1, 1, 0))))),))
        self.refuses(Unlike, value, ("empty", "a"), "n")
        value = (1, (("n", 1),), (("a", ("of", ("some", ("some", ("is", "eq", (1, 1, 1, (0, (("n", 1),)))))))),))
        self.same(range_of(value, ("all", "a"), "n"), ALL[1])
        value = (1, (("n", 1),), (("a", ("of", ("back", ((1, 0), (2, 0), (0, 3)),
                                                ("is", "eq", (1, 1, 1, (0, (("n", 1),))))))),))
        self.same(range_of(value, ("holds", "a", (2, 1)), "n"), form_of(1, lone(-9)))

    def test_too_great(self):
        dots = ("of", ("or",) + tuple(("is", "eq", (1, (-k, (("n", -1),)))) for k in range(25)))
        value = (1, (("n", 1),), (("a", dots), ("b", OPEN)))
        self.assertEqual(len(set_of(value, "a")[1]), 25)
        for claim in (("empty", "a"), ("within", "b", "a"), ("equal", "a", "a")):
            self.refuses(TooGreat, value, claim, "n", most=24)
        self.same(range_of(value, ("empty", "b"), "n"), EMPTY[1])
        few = ("of", ("or",) + tuple(("is", "eq", (1, (-k, (("n", -1),)))) for k in range(23)))
        self.same(range_of((1, (("n", 1),), (("a", few),)), ("holds", "a", (0, 1)), "n"),
                  points_of_line(range(-22, 1)))
        wide = ("of", ("some", ("some", ("and",) + tuple(("is", "lt", (k, k * k, -1,
                                                                       (k ** 3, (("n", k),)))) for k in range(30)))))
        self.refuses(TooGreat, (1, (("n", 1),), (("a", wide),)), ("empty", "a"), "n", most=200)


if __name__ == "__main__":
    unittest.main()
