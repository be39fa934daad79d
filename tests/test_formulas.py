"""Promises [13] and [14]: formulas, what is in them, and what is refused."""

import unittest

from helping import BIG, NO_INTEGERS, NO_TUPLES, SolidCase
from onesolid.errors import NotFormula
from onesolid.formulas import (check_formula, depth_of, dimension_at, is_formula, part_at, paths_of, put_at, rows_of,
                               without_not, words_of)

DIMENSIONS = (1, 2, 3, 4)
WORDS = ("lt", "le", "eq", "ne", "ge", "gt")
MOST = 10 ** 6


def leaf(dimension, last=0, word="lt"):
    """An "is" of the dimension; last tells one from another."""
    return ("is", word, (1,) * dimension + (last,))


def deep(dimension, depth):
    """A formula that is so deep."""
    formula = leaf(dimension)
    for _ in range(depth - 1):
        formula = ("not", formula)
    return formula


def wide(dimension, words):
    """A formula with so many words, 2 deep."""
    return ("and",) + tuple(leaf(dimension, last) for last in range(words - 1))


def samples(dimension):
    """Formulas of each kind."""
    one = leaf(dimension)
    found = [("is", word, (MOST,) * dimension + (-MOST,)) for word in WORDS]
    found += [("is", "eq", (0,) * (dimension + 1)), ("and",), ("or",), ("and", one), ("or", one, ("and",), one)]
    found += [("not", one), ("not", ("not", ("or",)))]
    for many in DIMENSIONS:
        found.append(("back", ((0,) * dimension + (MOST,),) * many, leaf(many)))
    if dimension < 4:
        found += [("some", leaf(dimension + 1)), ("every", ("and",))]
        found.append(("every", ("back", ((1,) * (dimension + 2),), ("some", leaf(2)))))
    return found


SHOW = ("or", ("not", ("is", "lt", (1, 2, 3))),
        ("some", ("and", ("is", "eq", (1, 2, 3, 4)), ("every", ("is", "gt", (0, 0, 0, 1, 5))), ("or",))),
        ("back", ((1, 0, 0),), ("is", "ne", (7, 8))), ("is", "lt", (1, 2, 3)))
SHOW_PATHS = ((), (1,), (1, 1), (2,), (2, 1), (2, 1, 1), (2, 1, 2), (2, 1, 2, 1), (2, 1, 3), (3,), (3, 2), (4,))


class Check(SolidCase):

    def wrong(self, dimension, value, path):
        self.refused(NotFormula, check_formula, dimension, value, path=path)
        self.same(is_formula(dimension, value), False)

    def wrong_inside(self, dimension, value, path):
        """The value is wrong at the path; so it is within all kinds of formulas."""
        self.wrong(dimension, value, path)
        good = leaf(dimension)
        self.wrong(dimension, ("not", value), (1,) + path)
        self.wrong(dimension, ("and", good, value, None), (2,) + path)
        self.wrong(dimension, ("or", ("and",), good, good, value, ("is",)), (4,) + path)
        self.wrong(3, ("back", ((0, 0, 0, 1),) * dimension, ("not", value)), (2, 1) + path)
        if dimension > 1:
            self.wrong(dimension - 1, ("some", value), (1,) + path)
            self.wrong(dimension - 1, ("every", ("or", value)), (1, 1) + path)

    def test_returns_formulas(self):
        for dimension in DIMENSIONS:
            for formula in samples(dimension):
                self.assertIs(check_formula(dimension, formula), formula)
                self.same(is_formula(dimension, formula), True)
        self.assertIs(check_formula(dimension=2, value=SHOW), SHOW)
        self.same(is_formula(dimension=2, value=SHOW), True)

    def test_no_tuple_of_a_word(self):
        for dimension in DIMENSIONS:
            for value in NO_TUPLES + (("is", "lt"),):
                self.wrong_inside(dimension, value, ())
            for word in ("", "IS", "xor", "lt", "all", "is ", None, 1, True, b"is", ("is",), ["is"], ["and"], {}):
                self.wrong_inside(dimension, (word,), ())
                self.wrong_inside(dimension, (word, leaf(dimension)), ())
                self.wrong_inside(dimension, (word, "lt", (1,) * (dimension + 1)), ())
            self.wrong_inside(dimension, (), ())
            self.wrong_inside(dimension, ["and"], ())

    def test_another_number_of_things_than_the_word_wants(self):
        for dimension in DIMENSIONS:
            one, row = leaf(dimension), (1,) * (dimension + 1)
            for value in (("is",), ("is", "lt"), ("is", "lt", row, row), ("not",), ("not", one, one),
                          ("back",), ("back", (row,)), ("back", leaf(1)), ("back", (row,), leaf(1), leaf(1))):
                self.wrong_inside(dimension, value, ())
            if dimension < 4:
                up = leaf(dimension + 1)
                for word in ("some", "every"):
                    for value in ((word,), (word, up, up), (word, up, None)):
                        self.wrong_inside(dimension, value, ())

    def test_a_wrong_sign_word(self):
        for dimension in DIMENSIONS:
            row = (1,) * (dimension + 1)
            for word in ("", "LT", "is", "<", "lt ", "not", None, 0, ("lt",), ["lt"], b"lt", {}):
                self.wrong_inside(dimension, ("is", word, row), (1,))
                # It comes ahead of the row.
                self.wrong_inside(dimension, ("is", word, None), (1,))

    def test_a_wrong_row(self):
        for dimension in DIMENSIONS:
            row = (1,) * (dimension + 1)
            for wrong in NO_TUPLES + ((), row[1:], row + (1,), list(row), (None,) * dimension):
                self.wrong_inside(dimension, ("is", "lt", wrong), (2,))

    def test_a_wrong_number(self):
        for dimension in DIMENSIONS:
            for wrong in NO_INTEGERS + (MOST + 1, -MOST - 1, BIG, -BIG):
                for place in range(dimension + 1):
                    row = (0,) * place + (wrong,) + (None,) * (dimension - place)
                    self.wrong_inside(dimension, ("is", "eq", row), (2, place))

    def test_numbers_up_to_a_million(self):
        for dimension in DIMENSIONS:
            for number in (MOST, -MOST, 0):
                self.same(is_formula(dimension, ("is", "eq", (number,) * (dimension + 1))), True)
                row = (number,) * (dimension + 1)
                self.same(is_formula(dimension, ("back", (row, row), ("and",))), True)

    def test_a_row_of_another_dimension(self):
        self.wrong(1, leaf(2), (2,))
        self.wrong(2, ("some", leaf(2)), (1, 2))
        self.wrong(2, ("every", leaf(4)), (1, 2))
        self.wrong(2, ("back", ((1, 2, 3),), leaf(2)), (2, 2))
        self.wrong(1, ("back", ((1, 2), (1, 2), (1, 2)), leaf(1)), (2, 2))
        self.wrong(1, ("back", ((1, 2, 3),), leaf(1)), (1, 0))
        self.wrong(3, ("some", ("back", ((1, 2, 3, 4),), leaf(1))), (1, 1, 0))

    def test_some_and_every_in_dimension_4(self):
        for word in ("some", "every"):
            for inside in (leaf(4), leaf(3), ("and",), None, ("is",)):
                self.wrong_inside(4, (word, inside), ())
            self.wrong(3, ("some", ("not", (word, leaf(4)))), (1, 1))
            self.wrong(3, ("some", (word, leaf(4))), (1,))
            self.wrong(2, ("some", (word, ("some", leaf(4)))), (1, 1))
            self.wrong(1, ("back", ((1, 2),) * 4, (word, leaf(4))), (2,))
            self.same(is_formula(3, (word, leaf(4))), True)
            self.same(is_formula(1, (word, ("some", ("every", leaf(4))))), True)
            self.same(is_formula(4, ("back", ((0,) * 5,) * 3, (word, leaf(4)))), True)

    def test_a_wrong_table(self):
        for dimension in DIMENSIONS:
            row = (1,) * (dimension + 1)
            for table in NO_TUPLES + ((), (row,) * 5, (None,) * 5, [row], (row,) * 200):
                self.wrong_inside(dimension, ("back", table, leaf(1)), (1,))
                self.wrong_inside(dimension, ("back", table, None), (1,))

    def test_a_wrong_row_of_a_table(self):
        for dimension in DIMENSIONS:
            row = (1,) * (dimension + 1)
            for wrong in (None, "row", (), row[1:], row + (1,), list(row)):
                self.wrong_inside(dimension, ("back", (wrong,), leaf(1)), (1, 0))
                self.wrong_inside(dimension, ("back", (row, row, wrong, None), None), (1, 2))

    def test_a_wrong_number_of_a_table(self):
        for dimension in DIMENSIONS:
            row = (1,) * (dimension + 1)
            for wrong in NO_INTEGERS + (MOST + 1, -MOST - 1, BIG):
                for place in range(dimension + 1):
                    bad = (MOST,) * place + (wrong,) + (None,) * (dimension - place)
                    self.wrong_inside(dimension, ("back", (bad,), None), (1, 0, place))
                    self.wrong_inside(dimension, ("back", (row, bad, None), leaf(3)), (1, 1, place))

    def test_the_first_from_the_left_ahead_of_what_is_in_it(self):
        bad = ("is", "lt", (1, None))
        self.wrong(1, ("and", bad, None), (1, 2, 1))
        self.wrong(1, ("and", ("or", ("and",), bad), ("xor",)), (1, 2, 2, 1))
        self.wrong(1, ("not", bad, None), ())
        self.wrong(1, ("some", bad), (1, 2))
        self.wrong(1, ("and", ("and", leaf(1), ("or", ("not", 5))), 7), (1, 2, 1, 1))
        self.wrong(1, ("back", ((1, True),), bad), (1, 0, 1))
        self.wrong(1, ("and", leaf(1), ("is", "it", 3), ("is", "lt", 3)), (2, 1))

    def test_200_words_and_one_more(self):
        for dimension in DIMENSIONS:
            self.assertEqual(words_of(wide(dimension, 200)), 200)
            self.same(is_formula(dimension, wide(dimension, 200)), True)
            self.wrong(dimension, wide(dimension, 201), ())
            self.wrong(dimension, ("not", wide(dimension, 200)), ())
            self.same(is_formula(dimension, ("or", wide(dimension, 100), wide(dimension, 99))), True)
            self.wrong(dimension, ("or", wide(dimension, 100), wide(dimension, 100)), ())
            self.wrong(dimension, ("back", ((0,) * (dimension + 1),), wide(1, 200)), ())
        self.same(is_formula(1, ("some", wide(2, 199))), True)
        self.wrong(1, ("some", wide(2, 200)), ())

    def test_12_deep_and_one_deeper(self):
        for dimension in DIMENSIONS:
            self.assertEqual(depth_of(deep(dimension, 12)), 12)
            self.same(is_formula(dimension, deep(dimension, 12)), True)
            self.wrong(dimension, deep(dimension, 13), ())
            self.wrong(dimension, ("or", deep(dimension, 3), deep(dimension, 12), leaf(dimension)), ())
            self.same(is_formula(dimension, ("back", ((0,) * (dimension + 1),), deep(1, 11))), True)
            self.wrong(dimension, ("back", ((0,) * (dimension + 1),), deep(1, 12)), ())
        self.wrong(1, ("every", deep(2, 12)), ())

    def test_too_much_is_told_at_the_end(self):
        self.wrong(1, ("and", wide(1, 300), deep(1, 40), ("is", "lt", (1, MOST + 1))), (3, 2, 1))
        self.wrong(1, wide(1, 300) + (None,), (300,))
        inside = ("is", "lt", (1,))
        for _ in range(90):
            inside = ("not", inside)
        self.wrong(1, inside, (1,) * 90 + (2,))
        self.wrong(1, deep(1, 95), ())


class Parts(SolidCase):

    def test_words_of(self):
        self.same(words_of(leaf(1)), 1)
        self.same(words_of(("and",)), 1)
        self.same(words_of(("not", ("or",))), 2)
        self.same(words_of(("or", leaf(2), leaf(2), leaf(2))), 4)
        self.same(words_of(("some", leaf(2))), 2)
        self.same(words_of(("back", ((1, 0),) * 4, leaf(4))), 2)
        self.same(words_of(formula=SHOW), 12)
        self.same(words_of(wide(1, 900)), 900)

    def test_depth_of(self):
        self.same(depth_of(leaf(1)), 1)
        self.same(depth_of(("and",)), 1)
        self.same(depth_of(("not", ("or",))), 2)
        self.same(depth_of(("or", leaf(2), ("not", leaf(2)), leaf(2))), 3)
        self.same(depth_of(("every", leaf(2))), 2)
        self.same(depth_of(("back", ((1, 0),) * 4, leaf(4))), 2)
        self.same(depth_of(formula=SHOW), 5)
        self.same(depth_of(deep(1, 12)), 12)

    def test_paths_of(self):
        self.same(paths_of(leaf(1)), ((),))
        self.same(paths_of(("and",)), ((),))
        self.same(paths_of(formula=SHOW), SHOW_PATHS)
        many = paths_of(wide(2, 12))
        self.same(many, ((),) + tuple((place,) for place in range(1, 12)))
        self.same(paths_of(("back", ((1, 0),), ("not", leaf(1)))), ((), (2,), (2, 1)))
        self.assertEqual(list(SHOW_PATHS), sorted(SHOW_PATHS))

    def test_part_at_and_dimension_at(self):
        wanted = [SHOW, SHOW[1], SHOW[1][1], SHOW[2], SHOW[2][1], SHOW[2][1][1], SHOW[2][1][2], SHOW[2][1][2][1],
                  SHOW[2][1][3], SHOW[3], SHOW[3][2], SHOW[4]]
        spaces = [2, 2, 2, 2, 3, 3, 3, 4, 3, 2, 1, 2]
        for path, part, space in zip(SHOW_PATHS, wanted, spaces):
            self.same(part_at(SHOW, path), part)
            self.same(dimension_at(2, SHOW, path), space)
            check_formula(space, part)
        self.same(part_at(path=(4,), formula=SHOW), SHOW[4])
        self.same(dimension_at(path=(3, 2), formula=SHOW, dimension=2), 1)
        self.same(dimension_at(1, ("back", ((1, 0),) * 4, ("not", leaf(4))), (2, 1)), 4)

    def test_other_values_of_path_are_refused(self):
        paths = NO_TUPLES + ([1], [])
        paths += ((0,), (5,), (-1,), (BIG,), (1, 0), (1, 2), (1, 1, 0), (1, 1, 1), (1, 1, 2), (1, 1, 2, 0), (2, 2),
                  (2, 1, 0), (2, 1, 4), (2, 1, 3, 1), (3, 1), (3, 0), (3, 1, 0), (3, 2, 1), (4, 2), (-4,), ((),),
                  (1, 1, 1, 1), (None,), ("1",), (2, "1"), (2, None), (1.0,), (2, 1.0), (True,), (2, True), (False,))
        for path in paths:
            self.refused(NotFormula, part_at, SHOW, path, path=path)
            self.refused(NotFormula, dimension_at, 2, SHOW, path, path=path)
            self.refused(NotFormula, put_at, 2, SHOW, path, leaf(2), path=path)

    def test_rows_of(self):
        self.same(rows_of(leaf(2, 7)), ((1, 1, 7),))
        self.same(rows_of(("or",)), ())
        self.same(rows_of(("back", ((1, 0),), ("and",))), ())
        self.same(rows_of(formula=SHOW), ((1, 2, 3), (1, 2, 3, 4), (0, 0, 0, 1, 5), (7, 8), (1, 2, 3)))
        self.same(rows_of(("and", leaf(1, 9), leaf(1, 3), leaf(1, 9))), ((1, 9), (1, 3), (1, 9)))
        self.same(rows_of(("is", "lt", (2 * BIG, 4))), ((2 * BIG, 4),))

    def test_put_at(self):
        self.same(put_at(2, SHOW, (), ("or",)), ("or",))
        self.same(put_at(2, SHOW, (4,), ("or",)), SHOW[:4] + (("or",),))
        self.same(put_at(2, SHOW, (1, 1), ("or",)), (SHOW[0], ("not", ("or",))) + SHOW[2:])
        self.same(put_at(2, SHOW, (3, 2), leaf(1)), SHOW[:3] + (("back", ((1, 0, 0),), leaf(1)),) + SHOW[4:])
        self.same(put_at(1, ("and", ("some", leaf(2))), (1, 1), ("and",)), ("and", ("some", ("and",))))
        self.same(put_at(dimension=1, formula=("and",), path=(), part=leaf(1)), leaf(1))

    def test_put_at_each_place(self):
        for path in SHOW_PATHS:
            space = dimension_at(2, SHOW, path)
            fresh = ("not", leaf(space, 77))
            made = put_at(2, SHOW, path, fresh)
            check_formula(2, made)
            self.same(part_at(made, path), fresh)
            self.same(put_at(2, made, path, part_at(SHOW, path)), SHOW)
            others = [other for other in SHOW_PATHS if other[:len(path)] != path and path[:len(other)] != other]
            for other in others:
                self.same(part_at(made, other), part_at(SHOW, other))

    def test_put_at_of_too_many_words(self):
        formula = ("and", leaf(1), wide(1, 100))
        self.same(words_of(put_at(1, formula, (1,), wide(1, 99))), 200)
        self.refused(NotFormula, put_at, 1, formula, (1,), wide(1, 100), path=())
        self.refused(NotFormula, put_at, 1, leaf(1), (), wide(1, 201), path=())
        self.same(put_at(1, leaf(1), (), wide(1, 200)), wide(1, 200))
        # A formula that had too many words may have few enough behind it.
        self.same(words_of(put_at(1, ("and", wide(1, 300), leaf(1)), (1,), leaf(1))), 3)
        self.refused(NotFormula, put_at, 1, ("and", wide(1, 300), leaf(1)), (2,), leaf(1), path=())

    def test_put_at_of_too_great_a_depth(self):
        self.same(depth_of(put_at(1, deep(1, 6), (1,) * 5, deep(1, 7))), 12)
        self.refused(NotFormula, put_at, 1, deep(1, 6), (1,) * 5, deep(1, 8), path=())
        self.refused(NotFormula, put_at, 1, deep(1, 12), (1,) * 11, ("not", leaf(1)), path=())
        self.same(depth_of(put_at(1, deep(1, 12), (), deep(1, 12))), 12)

    def test_put_at_refuses_the_path_first(self):
        self.refused(NotFormula, put_at, 1, leaf(1), (1,), wide(1, 201), path=(1,))
        self.refused(NotFormula, put_at, 1, ("not", leaf(1)), None, deep(1, 12), path=None)

    def test_put_at_takes_great_numbers(self):
        great = ("is", "lt", (BIG, 1))
        self.same(put_at(1, ("and", great, leaf(1)), (2,), great), ("and", great, great))


class Returned(SolidCase):
    """Formulas as the package itself may return them: with more words, and greater numbers."""

    def test_all_but_those_that_judge_take_them(self):
        cell = ("and", ("is", "lt", (BIG, 1, 3)), ("is", "eq", (0, 1, -BIG)))
        formula = ("or",) + (cell,) * 150
        self.refused(NotFormula, check_formula, 2, formula, path=(1, 1, 2, 0))
        self.same(is_formula(2, formula), False)
        self.same(words_of(formula), 451)
        self.same(depth_of(formula), 3)
        self.same(len(paths_of(formula)), 451)
        self.same(part_at(formula, (150, 2)), cell[2])
        self.same(dimension_at(2, formula, (150, 2)), 2)
        self.same(rows_of(formula), (cell[1][2], cell[2][2]) * 150)
        self.same(without_not(("not", ("not", formula))), formula)


class WithoutNot(SolidCase):

    def test_signs(self):
        for word, opposite in (("lt", "ge"), ("le", "gt"), ("eq", "ne")):
            for one, other in ((word, opposite), (opposite, word)):
                self.same(without_not(("not", ("is", one, (2, -4)))), ("is", other, (2, -4)))
                self.same(without_not(("is", one, (2, -4))), ("is", one, (2, -4)))

    def test_and_and_or(self):
        one, denied = leaf(1, 3), leaf(1, 3, "ge")
        self.same(without_not(("not", ("and",))), ("or",))
        self.same(without_not(("not", ("or",))), ("and",))
        self.same(without_not(("not", ("and", one, ("or", one, one)))), ("or", denied, ("and", denied, denied)))
        self.same(without_not(("not", ("or", ("not", one), one))), ("and", one, denied))
        self.same(without_not(("and", ("not", one), one)), ("and", denied, one))

    def test_some_and_every(self):
        one, denied = leaf(2, 3), leaf(2, 3, "ge")
        self.same(without_not(("not", ("some", one))), ("every", denied))
        self.same(without_not(("not", ("every", one))), ("some", denied))
        self.same(without_not(("some", ("not", ("not", one)))), ("some", one))
        self.same(without_not(("every", ("not", ("not", ("not", one))))), ("every", denied))
        self.same(without_not(("not", ("some", ("every", leaf(3))))), ("every", ("some", leaf(3, 0, "ge"))))

    def test_back(self):
        table = ((1, 2), (3, 4))
        self.same(without_not(("not", ("back", table, leaf(2)))), ("back", table, leaf(2, 0, "ge")))
        self.same(without_not(("back", table, ("not", leaf(2)))), ("back", table, leaf(2, 0, "ge")))
        self.same(without_not(("back", table, leaf(2))), ("back", table, leaf(2)))

    def test_a_formula_of_all_kinds(self):
        self.same(without_not(formula=("not", SHOW)),
                  ("and", ("is", "lt", (1, 2, 3)),
                   ("every", ("or", ("is", "ne", (1, 2, 3, 4)), ("some", ("is", "le", (0, 0, 0, 1, 5))), ("and",))),
                   ("back", ((1, 0, 0),), ("is", "eq", (7, 8))), ("is", "ge", (1, 2, 3))))
        self.same(without_not(("not", ("not", SHOW))), without_not(SHOW))
        self.same(without_not(SHOW), (SHOW[0], ("is", "ge", (1, 2, 3))) + SHOW[2:])

    def test_many_not(self):
        self.same(without_not(deep(2, 11)), leaf(2))
        self.same(without_not(deep(2, 12)), leaf(2, 0, "ge"))


if __name__ == "__main__":
    unittest.main()
