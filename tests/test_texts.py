"""Promise [18]: formulas and points as texts."""

import unittest
from random import Random

from helping import BIG, NO_TUPLES, OTHER_BIG, SolidCase
from making import small_formulas, small_points
from onesolid.errors import NotPoint, NotText, TooGreat
from onesolid.formulas import check_formula, depth_of, words_of
from onesolid.texts import formula_text, point_text, read_formula, read_point

ALL = ("is", "is", "not", "and", "or", "some", "every", "back")
LEAF = ("is", "ge", (1, -2))


def nested(word, many, inside):
    for _ in range(many):
        inside = (word, inside)
    return inside


class FormulaText(SolidCase):

    def test_worked_by_hand(self):
        self.same(formula_text(("is", "lt", (3, -5))), "lt 3 -5")
        self.same(formula_text(("is", "ne", (0, 0, 0, 0, 0))), "ne 0 0 0 0 0")
        self.same(formula_text(("not", LEAF)), "not ge 1 -2")
        self.same(formula_text(("some", ("is", "eq", (1, 2, 3)))), "some eq 1 2 3")
        self.same(formula_text(("every", ("is", "eq", (1, 2, 3)))), "every eq 1 2 3")
        self.same(formula_text(("and",)), "and 0")
        self.same(formula_text(("or",)), "or 0")
        self.same(formula_text(("or", LEAF, ("and", LEAF))), "or 2 ge 1 -2 and 1 ge 1 -2")
        self.same(formula_text(("back", ((1, 2, 3), (4, 5, -6)), ("is", "le", (7, 8, 9)))),
                  "back 2 1 2 3 4 5 -6 le 7 8 9")
        self.same(formula_text(formula=("back", ((1, 2),) * 4, ("and",))), "back 4 1 2 1 2 1 2 1 2 and 0")

    def test_greatest_numbers(self):
        self.same(formula_text(("is", "gt", (10 ** 6, -10 ** 6))), "gt 1000000 -1000000")
        for number in (10 ** 6 + 1, -10 ** 6 - 1, BIG, -BIG):
            for formula in (("is", "gt", (number, 0)), ("is", "gt", (0, number)),
                            ("and", LEAF, ("not", ("is", "gt", (1, number)))),
                            ("back", ((0, number), (0, 0)), ("and",)),
                            ("back", ((0, 1),), ("is", "lt", (number, 0)))):
                self.refused(TooGreat, formula_text, formula, most=10 ** 6)

    def test_many_words_and_great_depth_are_told(self):
        self.same(formula_text(("and",) + (LEAF,) * 300), "and 300" + " ge 1 -2" * 300)
        self.same(formula_text(nested("not", 20, LEAF)), "not " * 20 + "ge 1 -2")


class ReadFormula(SolidCase):

    def refused_at(self, place, dimension, text):
        with self.subTest(text[:200]):
            self.refused(NotText, read_formula, dimension, text, line=0, word=place)

    def test_worked_by_hand(self):
        self.same(read_formula(1, "lt 3 -5"), ("is", "lt", (3, -5)))
        self.same(read_formula(1, "and 0"), ("and",))
        self.same(read_formula(2, "or 0"), ("or",))
        self.same(read_formula(1, "or 2 ge 1 -2 and 1 ge 1 -2"), ("or", LEAF, ("and", LEAF)))
        self.same(read_formula(2, "back 1 1 2 3 le 7 8"), ("back", ((1, 2, 3),), ("is", "le", (7, 8))))
        self.same(read_formula(dimension=3, text="every gt 0 0 0 1 1000000"),
                  ("every", ("is", "gt", (0, 0, 0, 1, 10 ** 6))))
        for word in ("lt", "le", "eq", "ne", "ge", "gt"):
            self.same(read_formula(1, f"{word} 0 -1000000"), ("is", word, (0, -10 ** 6)))

    def test_what_was_written_is_read(self):
        for dimension in (1, 2, 3, 4):
            for formula in small_formulas(dimension, 150, 5, ALL, 10 + dimension):
                if words_of(formula) <= 200:
                    check_formula(dimension, formula)
                    self.same(read_formula(dimension, formula_text(formula)), formula)

    def test_no_string(self):
        for value in NO_TUPLES + ((), ("is",), ("is", "lt", (1, 2))):
            if not isinstance(value, str):
                self.refused(NotText, read_formula, 1, value, line=None, word=None)

    def test_empty_words(self):
        self.refused_at(0, 1, "")
        self.refused_at(0, 1, " ")
        self.refused_at(0, 1, " lt 3 -5")
        self.refused_at(3, 1, "lt 3 -5 ")
        self.refused_at(1, 1, "not  lt 3 -5")
        self.refused_at(1, 1, "lt  3 -5")
        self.refused_at(2, 1, "lt 3  -5")
        self.refused_at(0, 1, "\tlt 3 -5")
        self.refused_at(0, 1, "not\nlt 3 -5")
        self.refused_at(2, 1, "lt 3 -5\n")

    def test_words_that_lack(self):
        words = "and 2 back 2 1 2 3 4 5 6 le 7 8 9 some not gt 1 2 3 4".split(" ")
        self.assertEqual(formula_text(read_formula(2, " ".join(words))), " ".join(words))
        for many in range(1, len(words)):
            self.refused_at(many, 2, " ".join(words[:many]))

    def test_words_too_many(self):
        self.refused_at(3, 1, "lt 3 -5 0")
        self.refused_at(3, 1, "lt 3 -5 lt 3 -5")
        self.refused_at(2, 1, "and 0 and 0")
        self.refused_at(5, 1, "and 1 lt 1 2 lt")

    def test_word_otherwise(self):
        for word in ("ls", "LT", "is", "3", "-", "<", "l", "if", "nor", "xor", "any", "lt\n"):
            self.refused_at(0, 1, word + " 3 -5")
            self.refused_at(1, 1, "not " + word + " 3 -5")
            self.refused_at(2, 1, "and 1 " + word + " 3 -5")
        self.refused_at(1, 1, "lt lt 3 -5")
        self.refused_at(2, 1, "not not nt lt 3 -5")

    def test_is_stands_in_no_text(self):
        for word in ("lt", "le", "eq", "ne", "ge", "gt"):
            self.refused_at(0, 1, f"is {word} 3 -5")
            self.refused_at(1, 1, f"not is {word} 3 -5")
            self.refused_at(1, 2, f"every is {word} 12 12 1 1000000")
            self.refused_at(2, 1, f"or 2 is {word} 3 -5 {word} 3 -5")
            self.refused_at(5, 1, f"or 2 {word} 3 -5 is {word} 3 -5")
            self.refused_at(4, 1, f"back 1 1 2 is {word} 3 -5")
        self.refused_at(0, 1, "is")

    def test_integers_otherwise(self):
        for word in ("-0", "+1", "00", "01", "-01", "1.0", "1e3", "0x1", "1_0", "--1", "-", "", "x", "1000001",
                     "-1000001", "9" * 5000, "-" + "9" * 5000, "\u0663", "\u00b2", "1\n", "0000000"):
            self.refused_at(1, 1, f"lt {word} 5")
            self.refused_at(2, 1, f"lt 5 {word}")
            self.refused_at(1, 1, f"and {word} lt 1 2")
            self.refused_at(1, 1, f"back {word} 1 2 lt 1 2")
            self.refused_at(3, 1, f"back 1 1 {word} lt 1 2")
            self.refused_at(4, 1, f"back 2 1 2 {word} 4 lt 1 2")
        self.same(read_formula(1, "lt 1000000 -1000000"), ("is", "lt", (10 ** 6, -10 ** 6)))
        self.same(read_formula(1, "back 1 1000000 -1000000 or 0"), ("back", ((10 ** 6, -10 ** 6),), ("or",)))

    def test_how_many_rows(self):
        for many in (0, 5, 10, -1):
            self.refused_at(1, 1, f"back {many} " + "1 2 " * 5 + "and 0")
        for many in (1, 2, 3, 4):
            text = f"back {many} " + "1 2 " * many + "lt" + " 3" * (many + 1)
            self.same(read_formula(1, text), ("back", ((1, 2),) * many, ("is", "lt", (3,) * (many + 1))))
            self.refused_at(4 + 3 * many, 1, text + " 3")
            self.refused_at(3 + 3 * many, 1, text[:-2])

    def test_dimensions(self):
        self.refused_at(0, 4, "some lt 1 2 3 4 5 6")
        self.refused_at(0, 4, "every lt 1 2 3 4 5 6")
        self.refused_at(1, 3, "some every lt 1 2 3 4 5 6")
        self.refused_at(3, 1, "some some some some lt 1 2")
        self.refused_at(10, 1, "back 4 1 2 1 2 1 2 1 2 some and 0")
        self.same(read_formula(4, "back 1 1 2 3 4 5 some and 0"), ("back", ((1, 2, 3, 4, 5),), ("some", ("and",))))
        self.refused_at(6, 4, "lt 1 2 3 4 5 6")
        self.refused_at(5, 3, "lt 1 2 3 4 5")
        self.refused_at(4, 3, "lt 1 2 3")

    def test_just_as_many_words_as_may_be(self):
        full = ("and",) + (LEAF,) * 199
        self.same(read_formula(1, formula_text(full)), full)
        self.refused_at(1, 1, formula_text(("and",) + (LEAF,) * 200))
        self.refused_at(1, 1, "or 1000000")
        self.refused_at(1, 1, "and 200")
        self.refused_at(2, 1, "and 199")
        # The first part has the word "and", and 198 parts are still wanted behind it.
        self.same(read_formula(1, "and 199 and 0" + " and 0" * 198), ("and",) + (("and",),) * 199)
        self.refused_at(3, 1, "and 199 and 1 and 0" + " and 0" * 198)
        self.refused_at(2, 1, "and 199 not and 0" + " and 0" * 198)
        self.refused_at(2, 1, "and 199 some and 0" + " and 0" * 198)
        self.refused_at(2, 1, "and 199 every and 0" + " and 0" * 198)
        self.refused_at(2, 1, "and 199 back 1 1 2 and 0" + " and 0" * 198)
        self.same(read_formula(1, "and 198 not and 0" + " and 0" * 197),
                  ("and", ("not", ("and",))) + (("and",),) * 197)
        self.refused_at(3, 1, "and 198 not not and 0")
        self.refused_at(5, 1, "and 198 not and 0 not and 0")
        two = ("or", ("and",) + (LEAF,) * 99, ("and",) + (LEAF,) * 98)
        self.same(read_formula(1, formula_text(two)), two)
        more = ("or", ("and",) + (LEAF,) * 99, ("and",) + (LEAF,) * 99)
        self.refused_at(3 + 1 + 3 * 99 + 1, 1, formula_text(more))

    def test_just_so_deep_as_may_be(self):
        for word in ("not", "and", "or"):
            deep = nested(word, 11, LEAF)
            self.assertEqual(depth_of(deep), 12)
            self.same(read_formula(1, formula_text(deep)), deep)
        self.refused_at(11, 1, formula_text(nested("not", 12, LEAF)))
        self.refused_at(11, 1, "not " * 12)
        led = "and 0"
        for _ in range(11):
            led = "back 1 1 2 " + led
        self.assertEqual(depth_of(read_formula(1, led)), 12)
        self.refused_at(44, 1, "back 1 1 2 " * 12 + "and 0")
        self.same(read_formula(1, "some not " * 2 + "some " + "not " * 6 + "and 0"),
                  ("some", ("not", ("some", ("not", ("some", nested("not", 6, ("and",))))))))
        self.refused_at(11, 1, "some not " * 2 + "some " + "not " * 7 + "and 0")
        self.refused_at(11, 2, "every " + "not " * 11 + "and 0")
        self.refused_at(23, 1, formula_text(nested("and", 12, LEAF)))
        self.refused_at(23, 1, formula_text(nested("or", 12, LEAF)))
        self.same(read_formula(1, "not " * 11 + "and 0"), nested("not", 11, ("and",)))
        for word in ("some", "every", "not"):
            self.refused_at(11, 1, "not " * 11 + word + " and 0")
        self.refused_at(11, 1, "not " * 11 + "back 1 1 2 and 0")
        self.refused_at(12, 1, "not " * 11 + "or 1 and 0")
        self.same(read_formula(1, "not " * 10 + "back 1 1 2 and 0"), nested("not", 10, ("back", ((1, 2),), ("and",))))

    def test_the_word_refused_is_the_first_that_cannot_stand(self):
        """The words ahead of it can be completed; with it, nothing that is put behind is ever reached."""
        random = Random(3)
        texts = [formula_text(formula) for formula in small_formulas(2, 60, 4, ALL, 5)]
        for text in texts:
            words = text.split(" ")
            place = random.randrange(len(words))
            words[place] = random.choice(("is", "lt", "and", "0", "-3", "7", "back", "some", "x"))
            try:
                self.assertEqual(formula_text(read_formula(2, " ".join(words))), " ".join(words))
            except NotText as error:
                self.assertEqual(error.line, 0)
                self.completed(words[:error.word])
                for more in ("0", "is", "lt", "1 1 1"):
                    behind = words[:error.word + 1] + more.split(" ")
                    if error.word < len(words):
                        self.refused_at(error.word, 2, " ".join(behind))

    def completed(self, words):
        """The words can be completed to the text of a formula."""
        for _ in range(1000):
            try:
                if words:
                    check_formula(2, read_formula(2, " ".join(words)))
                    return
            except NotText as error:
                self.assertEqual(error.word, len(words))
            words = words + [self.next_word(words)]
        self.fail("no end")

    def next_word(self, words):
        for word in ("0", "1", "lt", "is"):
            try:
                read_formula(2, " ".join(words + [word]))
                return word
            except NotText as error:
                if error.word > len(words):
                    return word
        return self.fail(words)


class Points(SolidCase):

    def test_worked_by_hand(self):
        self.same(point_text((3, -5, 2)), "3 -5 2")
        self.same(point_text(point=(0, 1)), "0 1")
        self.same(read_point(2, "3 -5 2"), (3, -5, 2))
        self.same(read_point(dimension=1, text="0 1"), (0, 1))
        self.same(read_point(4, "-1 2 -3 4 5"), (-1, 2, -3, 4, 5))

    def test_what_was_written_is_read(self):
        for dimension in (1, 2, 3, 4):
            for point in small_points(dimension, 50, dimension):
                self.same(read_point(dimension, point_text(point)), point)
        self.same(read_point(2, point_text((BIG, -OTHER_BIG, 10 ** 999 + 1))), (BIG, -OTHER_BIG, 10 ** 999 + 1))

    def test_long_numbers(self):
        self.same(point_text((10 ** 60, 1)), "1" + "0" * 60 + " 1")
        self.same(point_text((-10 ** 120 - 7, 10 ** 60 - 1)), "-1" + "0" * 119 + "7 " + "9" * 60)
        self.same(point_text((10 ** 9000 + 5, 1)), "1" + "0" * 8999 + "5 1")
        self.same(point_text((-10 ** 9000 - 5, 1)), "-1" + "0" * 8999 + "5 1")
        text = "9" * 1000
        self.same(read_point(1, text + " 1"), (10 ** 1000 - 1, 1))
        self.same(read_point(1, "-" + text + " " + text[:-1] + "8"), (1 - 10 ** 1000, 10 ** 1000 - 2))
        self.refused(NotText, read_point, 1, "1" + "0" * 1000 + " 1", line=0, word=0)
        self.refused(NotText, read_point, 1, "1 " + "1" * 1001, line=0, word=1)
        self.refused(NotText, read_point, 1, "1 " + "1" * 9999, line=0, word=1)

    def test_no_string(self):
        for value in NO_TUPLES + ((), (1, 2)):
            if not isinstance(value, str):
                self.refused(NotText, read_point, 1, value, line=None, word=None)

    def test_words_that_cannot_stand(self):
        for dimension, text, place in (
                (1, "", 0), (1, " ", 0), (1, " 1 1", 0), (1, "1  1", 1), (1, "1 1 ", 2), (1, "1", 1), (1, "1 1 1", 2),
                (2, "1 1", 2), (2, "1", 1), (2, "x 1 1", 0), (2, "1 x 1", 1), (2, "1 1 x", 2), (2, "x y z", 0),
                (2, "1 1 1 x", 3), (1, "-0 1", 0), (1, "+1 1", 0), (1, "01 1", 0), (1, "1 -01", 1), (1, "1.0 1", 0),
                (1, "- 1", 0), (1, "--1 1", 0), (1, "1 1\n", 1), (1, "1\t1", 0), (1, "\u0663 1", 0), (4, "1 1 1 1", 4)):
            with self.subTest(text):
                self.refused(NotText, read_point, dimension, text, line=0, word=place)

    def test_what_is_no_point(self):
        self.refused(NotPoint, read_point, 1, "1 0", place=1)
        self.refused(NotPoint, read_point, 2, "1 1 -1", place=2)
        self.refused(NotPoint, read_point, 2, "2 4 6", place=-2)
        self.refused(NotPoint, read_point, 1, "0 2", place=-2)
        self.refused(NotText, read_point, 1, "2 0 2", line=0, word=2)


if __name__ == "__main__":
    unittest.main()
