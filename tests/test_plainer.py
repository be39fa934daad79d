"""Promise [17]: formulas of "is", "not", "and", "or" alone."""

import unittest
from fractions import Fraction

from anew import whole
from helping import BIG, SolidCase
from making import small_formulas, small_points, with_looked_at
from onesolid.errors import TooGreat
from onesolid.formulas import check_formula, words_of
from onesolid.holding import holds, looked_at
from onesolid.plainer import is_plain, plain

FREE = ("is", "is", "not", "and", "or")
ALL = FREE + ("some", "every", "back")


def with_rows(formula, change):
    if formula[0] == "is":
        return ("is", formula[1], change(formula[2]))
    return (formula[0],) + tuple(with_rows(part, change) for part in formula[1:])


def plain_anew(dimension, formula):
    """The plain formula, told anew; None if it would have more than 200 words."""
    word = formula[0]
    if word == "is":
        return formula
    if word == "back":
        inside = plain_anew(len(formula[1]), formula[2])
        columns = list(zip(*formula[1]))

        def through(row):
            found = [sum(a * b for a, b in zip(row, column)) for column in columns]
            return tuple(found[:-1]) + (found[-1] + row[-1],)

        return inside and with_rows(inside, through)
    if word in ("some", "every"):
        inside = plain_anew(dimension + 1, formula[1])
        return inside and spread_anew(dimension, word, inside)
    parts = [plain_anew(dimension, part) for part in formula[1:]]
    if None in parts or 1 + sum(map(words_of, parts)) > 200:
        return None
    return (word,) + tuple(parts)


def spread_anew(dimension, word, inside):
    own = []
    for plane in looked_at(dimension + 1, inside):
        if plane[-2] != 0:
            own.append([Fraction(-number, plane[-2]) for number in plane[:-2] + plane[-1:]])
    values = list(own)
    for place, one in enumerate(own):
        values += [[(a + b) / 2 for a, b in zip(one, other)] for other in own[place + 1:]]
    values += [one[:-1] + [one[-1] - 1] for one in own]
    values += [one[:-1] + [one[-1] + 1] for one in own]
    values.append([Fraction(0)] * (dimension + 1))
    made = []
    for value in values:
        part = with_rows(inside, lambda row: whole(a + row[-2] * b for a, b in zip(row[:-2] + row[-1:], value)))
        if part not in made:
            made.append(part)
        if 1 + len(made) * words_of(inside) > 200:
            return None
    return ("or" if word == "some" else "and",) + tuple(made)


def many(words):
    """"and" with so many words in dimension 2; put in for the last coordinate are the three values 0, -1 and 1."""
    return ("and",) + (("is", "lt", (0, 1, 0)),) * (words - 1)


class Plain(SolidCase):

    def test_is_stays(self):
        for row in ((2, -4), (0, 0), (-3, 6), (0, 8), (BIG, BIG)):
            self.same(plain(1, ("is", "lt", row)), ("is", "lt", row))
        self.same(plain(dimension=4, formula=("is", "ne", (2, 4, 6, 8, 10))), ("is", "ne", (2, 4, 6, 8, 10)))

    def test_not_and_or_have_the_plain_parts(self):
        one, back = ("is", "lt", (2, -4)), ("back", ((2, 2),), ("is", "gt", (3, 1)))
        self.same(plain(1, ("not", back)), ("not", ("is", "gt", (6, 7))))
        self.same(plain(1, ("and", one, back, one)), ("and", one, ("is", "gt", (6, 7)), one))
        self.same(plain(1, ("or", ("not", ("not", one)), one)), ("or", ("not", ("not", one)), one))
        self.same(plain(1, ("and",)), ("and",))
        self.same(plain(1, ("or",)), ("or",))

    def test_back(self):
        # The rows put through are not divided.
        self.same(plain(1, ("back", ((2, 2), (4, 0)), ("is", "eq", (1, 1, 4)))), ("is", "eq", (6, 6)))
        self.same(plain(2, ("back", ((-2, 4, 0),), ("and", ("is", "eq", (3, 6)), ("is", "le", (0, 5))))),
                  ("and", ("is", "eq", (-6, 12, 6)), ("is", "le", (0, 0, 5))))
        self.same(plain(1, ("back", ((1, 0), (1, 0)), ("is", "eq", (1, -1, 0)))), ("is", "eq", (0, 0)))
        # The part is made plain first: its "or" is over values of its own third coordinate.
        inside = ("some", ("is", "gt", (1, 0, -1, 0)))
        self.same(plain(1, ("back", ((2, 0), (5, 5)), inside)),
                  ("or", ("is", "gt", (0, 0)), ("is", "gt", (0, 1)), ("is", "gt", (0, -1)), ("is", "gt", (2, 0))))

    def test_some_of_one_plane(self):
        wanted = ("or", ("is", "gt", (0, 0)), ("is", "gt", (0, 1)), ("is", "gt", (0, -1)), ("is", "gt", (1, 0)))
        self.same(plain(1, ("some", ("is", "gt", (1, -1, 0)))), wanted)
        # The plane of this row is the same, so are the values.
        wanted = ("or", ("is", "gt", (0, 0)), ("is", "gt", (0, -1)), ("is", "gt", (0, 1)), ("is", "gt", (-1, 0)))
        self.same(plain(1, ("some", ("is", "gt", (-3, 3, 0)))), wanted)
        # 2 x + 3 z + 5 = 0: z is (-2 x - 5) / 3, less 1 (-2 x - 8) / 3, and 1 (-2 x - 2) / 3.
        found = plain(1, ("some", ("and", ("is", "le", (2, 3, 5)), ("is", "ge", (7, 2, 1)))))
        self.same(found[1], ("and", ("is", "le", (0, 0)), ("is", "ge", (17, -7))))

    def test_every_is_and_of_the_same(self):
        for inside in (("is", "gt", (1, -1, 0)), ("and", ("is", "le", (2, 3, 5)), ("is", "ge", (7, 2, 1))), ("and",)):
            some, every = plain(1, ("some", inside)), plain(1, ("every", inside))
            self.assertEqual((some[0], every[0]), ("or", "and"))
            self.same(every[1:], some[1:])

    def test_the_values_in_their_sequence(self):
        # z = 1, z = 4 and z = 9, ascending (0, 1, -9), (0, 1, -4), (0, 1, -1); the row with x tells the value.
        inside = ("and", ("is", "eq", (1, 1, 0)), ("is", "lt", (0, 1, -1)), ("is", "lt", (0, 1, -9)),
                  ("is", "lt", (0, 1, -4)))
        found = plain(1, ("some", inside))
        planes = ((0, 1, -9), (0, 1, -4), (0, 1, -1), (1, 1, 0))
        self.same(looked_at(2, inside), planes)
        own = [(0, 9), (0, 4), (0, 1), (-1, 0)]
        values = own + [(0, Fraction(13, 2)), (0, 5), (Fraction(-1, 2), Fraction(9, 2)), (0, Fraction(5, 2)),
                        (Fraction(-1, 2), 2), (Fraction(-1, 2), Fraction(1, 2))]
        values += [(a, b - 1) for a, b in own] + [(a, b + 1) for a, b in own] + [(0, 0)]
        # 5 and 0 come twice.
        values = list(dict.fromkeys(values))
        self.assertEqual(len(values), 4 + 6 + 8 + 1 - 2)
        self.same(tuple(part[1][2] for part in found[1:]), tuple(whole((1 + a, b)) for a, b in values))
        self.same(found[1], ("and", ("is", "eq", (1, 9)), ("is", "lt", (0, 1)), ("is", "lt", (0, 0)),
                             ("is", "lt", (0, 1))))
        self.same(found[4][1:3], (("is", "eq", (0, 0)), ("is", "lt", (-1, -1))))

    def test_rows_put_in_are_divided_by_their_divisor(self):
        inside = ("or", ("is", "lt", (6, 0, 9)), ("is", "lt", (0, 0, -8)), ("is", "lt", (0, 0, 0)))
        self.same(plain(1, ("some", inside)), ("or", ("or", ("is", "lt", (2, 3)), ("is", "lt", (0, -1)),
                                                      ("is", "lt", (0, 0)))))
        self.same(plain(2, ("every", ("is", "ge", (4, -6, 0, 2)))), ("and", ("is", "ge", (2, -3, 1))))

    def test_of_equal_ones_only_the_first_stays(self):
        self.same(plain(1, ("some", ("and",))), ("or", ("and",)))
        # z = 0 comes twice, as the plane's value and at the end.
        self.same(plain(1, ("some", ("is", "lt", (0, 1, 0)))),
                  ("or", ("is", "lt", (0, 0)), ("is", "lt", (0, -1)), ("is", "lt", (0, 1))))
        self.same(plain(1, ("some", ("is", "lt", (0, 5, -15)))),
                  ("or", ("is", "lt", (0, 0)), ("is", "lt", (0, -1)), ("is", "lt", (0, 1))))

    def test_negative_last_coefficients(self):
        self.same(plain(1, ("some", ("is", "lt", (3, -2, 4)))),
                  ("or", ("is", "lt", (0, 0)), ("is", "lt", (0, 1)), ("is", "lt", (0, -1)), ("is", "lt", (3, 4))))
        self.same(plain(1, ("every", ("is", "lt", (-3, 2, -4)))),
                  ("and", ("is", "lt", (0, 0)), ("is", "lt", (0, -1)), ("is", "lt", (0, 1)), ("is", "lt", (-3, -4))))

    def test_nested(self):
        # First the inner one: x + y + z < 0 becomes four rows of x and y, two of them without any.
        inner = plain(2, ("some", ("is", "lt", (1, 1, 1, 0))))
        self.same(inner, ("or", ("is", "lt", (0, 0, 0)), ("is", "lt", (0, 0, -1)), ("is", "lt", (0, 0, 1)),
                          ("is", "lt", (1, 1, 0))))
        self.same(plain(1, ("some", ("some", ("is", "lt", (1, 1, 1, 0))))), plain(1, ("some", inner)))

    def test_many_formulas_told_anew(self):
        counts = [0, 0]
        for dimension in (1, 2, 3, 4):
            formulas = small_formulas(dimension, 150, 4, ALL, 400 + dimension)
            for formula in formulas + small_formulas(dimension, 60, 7, ALL, 410 + dimension):
                wanted = plain_anew(dimension, formula)
                counts[wanted is None] += 1
                if wanted is None:
                    self.refused(TooGreat, plain, dimension, formula, most=200)
                else:
                    self.same(plain(dimension, formula), wanted)
        self.assertGreater(min(counts), 5)

    def test_it_holds_at_the_same_points(self):
        for dimension in (1, 2, 3):
            for formula in small_formulas(dimension, 120, 4, ALL, 420 + dimension):
                try:
                    found = plain(dimension, formula)
                except TooGreat:
                    continue
                self.same(is_plain(found), True)
                for point in small_points(dimension, 8, 21):
                    self.same(holds(dimension, found, point), holds(dimension, formula, point))

    def test_200_words_and_more(self):
        just = ("some", many(66))
        self.same(words_of(plain(1, just)), 199)
        self.same(words_of(plain(1, ("not", just))), 200)
        self.same(words_of(plain(1, ("and", just))), 200)
        self.refused(TooGreat, plain, 1, ("not", ("not", just)), most=200)
        self.refused(TooGreat, plain, 1, ("and", just, ("is", "lt", (1, 0))), most=200)
        self.refused(TooGreat, plain, 1, ("or", ("and",), just), most=200)
        self.refused(TooGreat, plain, 1, ("some", many(67)), most=200)
        self.refused(TooGreat, plain, 1, ("every", many(67)), most=200)
        self.same(words_of(plain(1, ("back", ((1, 0),), ("not", just)))), 200)

    def test_200_words_with_one_value(self):
        flat = ("and",) + (("is", "lt", (1, 0, 0)),) * 198
        self.same(words_of(plain(1, ("some", flat))), 200)
        self.same(words_of(plain(1, ("every", flat))), 200)
        check_formula(1, ("some", flat))
        self.refused(TooGreat, plain, 1, ("some", flat + flat[1:2]), most=200)

    def test_200_words_without_some(self):
        wide = ("or",) + (("is", "lt", (1, 0)),) * 199
        self.same(plain(1, wide), wide)
        self.refused(TooGreat, plain, 1, wide + wide[1:2], most=200)
        self.refused(TooGreat, plain, 1, ("not", wide), most=200)

    def test_a_formula_on_the_way_with_too_many_words(self):
        self.refused(TooGreat, plain, 1, ("not", ("some", ("back", ((1, 1, 0),), ("some", many(67))))), most=200)
        self.refused(TooGreat, plain, 1, with_looked_at(201), most=200)
        self.refused(TooGreat, plain, 2, ("back", ((0, 0, 1),), with_looked_at(201)), most=200)

    def test_great_numbers(self):
        self.same(plain(1, ("back", ((BIG, 1),), ("is", "lt", (BIG, 1)))), ("is", "lt", (BIG * BIG, BIG + 1)))
        self.same(plain(1, ("some", ("is", "lt", (BIG, 0, 7 * BIG)))), ("or", ("is", "lt", (1, 7))))


class IsPlain(SolidCase):

    def test_is_plain(self):
        one = ("is", "lt", (1, 1))
        for formula in (one, ("not", one), ("and",), ("or",), ("and", one, ("or", ("not", one), one))):
            self.same(is_plain(formula), True)
        two = ("is", "lt", (1, 1, 1))
        for formula in (("some", two), ("every", two), ("back", ((1, 1),), one)):
            self.same(is_plain(formula), False)
            self.same(is_plain(("not", formula)), False)
            self.same(is_plain(("and", one, one, formula)), False)
            self.same(is_plain(("or", formula, one)), False)
            self.same(is_plain(("or", one, ("and", ("not", formula)), one)), False)
        self.same(is_plain(formula=("and", one)), True)


if __name__ == "__main__":
    unittest.main()
