"""Promise [22]: the greatest value of a row on the set of a system, and papers that show it."""

import unittest
from random import Random

from anew import has_points, some_systems
from helping import BIG, NO_INTEGERS, NO_TUPLES, OTHER_BIG, SolidCase
from onesolid.best import check_greatest, greatest, greatest_paper
from onesolid.errors import NotPaper, NotRow
from onesolid.numbers import check_fraction
from test_bars import NO_FRACTIONS, ONE, ZERO

# The triangle with the corners (0, 0), (4, 0), (0, 2), without its side at x = 0.
TRIANGLE = (("gt", (1, 0, 0)), ("ge", (0, 1, 0)), ("ge", (-1, -2, 4)))
NOWHERE = (("gt", (1, 0)), ("ge", (-1, 0)))


class Greatest(SolidCase):

    def test_worked_by_hand(self):
        self.same(greatest(2, TRIANGLE, (1, 0, 0)), ("most", (4, 1), True))
        self.same(greatest(2, TRIANGLE, (0, 3, 1)), ("most", (7, 1), False))
        self.same(greatest(2, TRIANGLE, (-1, 0, 0)), ("most", (0, 1), False))
        self.same(greatest(2, TRIANGLE, (0, -1, 0)), ("most", (0, 1), True))
        self.same(greatest(2, TRIANGLE, (1, 2, 3)), ("most", (7, 1), True))
        self.same(greatest(2, TRIANGLE, (-1, -2, 0)), ("most", (0, 1), False))
        self.same(greatest(dimension=1, system=(("ge", (-3, 2)),), row=(5, 1)), ("most", (13, 3), True))

    def test_endless(self):
        self.same(greatest(1, (), (1, 0)), ("endless",))
        self.same(greatest(1, (("ge", (1, 0)),), (1, 0)), ("endless",))
        self.same(greatest(1, (("ge", (1, 0)),), (-1, 0)), ("most", (0, 1), True))
        self.same(greatest(2, (("ge", (1, 0, 0)),), (0, -1, 0)), ("endless",))
        self.same(greatest(2, (("eq", (1, 1, 0)),), (1, 1, 0)), ("most", (0, 1), True))
        self.same(greatest(2, (("eq", (1, 1, 0)),), (2, 1, 0)), ("endless",))
        self.same(greatest(2, (("gt", (1, 1, 0)), ("gt", (1, -1, 0))), (-1, 0, 0)), ("most", (0, 1), False))

    def test_nowhere(self):
        for row in ((1, 0), (-1, 5), (0, 0), (0, 3)):
            self.same(greatest(1, NOWHERE, row), ("none",))

    def test_rows_without_coefficients(self):
        for number in (-3, 0, 5):
            self.same(greatest(2, TRIANGLE, (0, 0, number)), ("most", (number, 1), True))
            self.same(greatest(3, (), (0, 0, 0, number)), ("most", (number, 1), True))
            self.same(greatest(1, (("gt", (1, 0)),), (0, number)), ("most", (number, 1), True))

    def test_met_on_a_part_of_the_greatest_face_alone(self):
        square = (("ge", (1, 0, 0)), ("ge", (-1, 0, 1)), ("ge", (0, 1, 0)), ("ge", (0, -1, 1)))
        self.same(greatest(2, square + (("gt", (1, 1, 0)),), (-1, 0, 0)), ("most", (0, 1), True))
        self.same(greatest(2, square + (("gt", (1, 1, 0)),), (-1, -1, 0)), ("most", (0, 1), False))
        self.same(greatest(2, square + (("gt", (1, 1, 0)),), (-2, -1, 0)), ("most", (0, 1), False))

    def test_great_numbers(self):
        self.same(greatest(1, (("gt", (-BIG, OTHER_BIG)),), (BIG, 1)), ("most", (OTHER_BIG + 1, 1), False))
        self.same(greatest(1, (("eq", (BIG, -1)),), (1, OTHER_BIG)), ("most", (OTHER_BIG * BIG + 1, BIG), True))

    def test_told_anew(self):
        random = Random(2)
        words = []
        for dimension in (1, 2, 3, 4):
            for system in some_systems(dimension, 100, 90 + dimension):
                row = tuple(random.randint(-3, 3) for _ in range(dimension + 1))
                found = greatest(dimension, system, row)
                self.told(dimension, system, row, found)
                words.append(found[0] + str(found[2:]))
                paper = greatest_paper(dimension, system, row)
                self.same(greatest_paper(dimension=dimension, system=system, row=row), paper)
                self.same(check_greatest(dimension, system, row, paper), found)
                wanted = {"none": "none", "endless": "endless", "most": "met" if found[-1] is True else "near"}
                self.assertEqual(paper[0], wanted[found[0]])
        self.assertEqual(len(set(words)), 4)
        self.assertGreater(min(words.count(word) for word in set(words)), 25)

    def told(self, dimension, system, row, found):
        def above(word, top, bottom):
            limit = tuple(bottom * number for number in row[:-1]) + (bottom * row[-1] - top,)
            return has_points(list(system) + [(word, limit)], dimension)

        if found[0] == "most":
            top, bottom = check_fraction(found[1])
            self.assertFalse(above("gt", top, bottom))
            self.assertEqual(above("ge", top, bottom), found[2])
            self.assertTrue(above("gt", 1000 * top - 1, 1000 * bottom))
        else:
            self.assertEqual(found, ("endless",) if has_points(system, dimension) else ("none",))
            self.assertEqual(above("gt", 10 ** 6, 1), found[0] == "endless")

    def test_no_row(self):
        for call in (greatest, greatest_paper):
            for value in NO_TUPLES + ((), (1,), (1, 2, 3)):
                self.refused(NotRow, call, 1, NOWHERE, value, place=-1)
            for value in NO_INTEGERS:
                self.refused(NotRow, call, 1, (), (value, None), place=0)
                self.refused(NotRow, call, 2, TRIANGLE, (0, 0, value), place=2)
        for value in NO_TUPLES + ((), (1,), (1, 2, 3)):
            self.refused(NotRow, check_greatest, 1, NOWHERE, value, None, place=-1)
        self.refused(NotRow, check_greatest, 1, NOWHERE, (1, True), ("none", (ONE, ONE)), place=1)


class Papers(SolidCase):

    def bent(self, system, row, right, shown, wrong, dimension=2):
        """The right paper shows what is told, those that are wrong do not hold."""
        self.same(check_greatest(dimension, system, row, right), shown)
        self.same(check_greatest(dimension=dimension, system=system, row=row, paper=right), shown)
        for paper in wrong:
            with self.subTest(paper):
                self.refused(NotPaper, check_greatest, dimension, system, row, paper, word=paper[0])

    def test_none(self):
        self.bent(NOWHERE, (1, 0), ("none", (ONE, ONE)), ("none",),
                  (("none", (ONE, ZERO)), ("none", (ZERO, ONE)), ("none", ((-1, 1), (-1, 1))),
                   ("none", (ZERO, ZERO))), 1)
        self.refused(NotPaper, check_greatest, 1, (("ge", (1, 0)), ("ge", (-1, 0))), (1, 0), ("none", (ONE, ONE)),
                     word="none")
        for paper in (("endless", (0, 1), (1,)), ("met", (0, 1), (ZERO, ONE)), ("near", (0, 1), (0, 1), (ONE, ONE))):
            self.refused(NotPaper, check_greatest, 1, NOWHERE, (1, 0), paper, word=paper[0])

    def test_endless(self):
        system = (("gt", (1, 0, 0)), ("eq", (1, -1, 0)), ("ge", (0, 1, -1)))
        self.bent(system, (1, 0, 0), ("endless", (1, 1, 1), (1, 1)), ("endless",),
                  (("endless", (0, 0, 1), (1, 1)), ("endless", (2, 1, 1), (1, 1)), ("endless", (1, 1, 2), (1, 1)),
                   ("endless", (1, 1, 1), (-1, -1)), ("endless", (1, 1, 1), (1, 0)), ("endless", (1, 1, 1), (2, 1)),
                   ("endless", (1, 1, 1), (1, 2))))
        # The row does not grow along the direction, or the direction leads out.
        half = (("ge", (1, 0, 0)),)
        self.bent(half, (1, 1, 0), ("endless", (0, 0, 1), (0, 1)), ("endless",),
                  (("endless", (0, 0, 1), (1, -1)), ("endless", (0, 0, 1), (-1, 3)), ("endless", (0, 0, 1), (0, -1))))
        self.refused(NotPaper, check_greatest, 2, TRIANGLE, (1, 0, 0), ("endless", (1, 1, 1), (1, 0)), word="endless")

    def test_met(self):
        self.bent(TRIANGLE, (1, 0, 0), ("met", (4, 0, 1), (ZERO, (2, 1), ONE)), ("most", (4, 1), True),
                  (("met", (3, 0, 1), (ZERO, (2, 1), ONE)), ("met", (4, 1, 1), (ZERO, (2, 1), ONE)),
                   ("met", (4, 0, 1), (ZERO, (2, 1), (1, 2))), ("met", (4, 0, 1), (ZERO, ONE, ONE)),
                   ("met", (4, 0, 1), (ONE, (2, 1), ONE)), ("met", (4, 0, 1), (ZERO, ZERO, ZERO)),
                   ("met", (2, 1, 1), (ZERO, (2, 1), ONE)), ("met", (5, 0, 1), (ZERO, (2, 1), ONE)),
                   ("near", (1, 1, 2), (4, 0, 1), (ZERO, (2, 1), ONE))))
        # The system does not hold at the point, though all else is right.
        self.refused(NotPaper, check_greatest, 2, TRIANGLE, (-1, 0, 0), ("met", (0, 0, 1), (ONE, ZERO, ZERO)),
                     word="met")

    def test_weights_of_equations_may_be_negative(self):
        system = (("eq", (1, 0, -1)), ("ge", (0, 1, 0)))
        self.bent(system, (1, -2, 0), ("met", (1, 0, 1), ((-1, 1), (2, 1))), ("most", (1, 1), True),
                  (("met", (1, 0, 1), (ONE, (2, 1))), ("met", (1, 0, 1), ((-1, 1), (-2, 1)))))
        self.refused(NotPaper, check_greatest, 2, (("ge", (1, 0, -1)), ("ge", (0, 1, 0))), (1, -2, 0),
                     ("met", (1, 0, 1), ((-1, 1), (2, 1))), word="met")

    def test_near(self):
        row = (-2, -1, 3)
        inside, corner, weights = (1, 1, 1), (0, 0, 1), ((2, 1), ONE, ZERO)
        self.bent(TRIANGLE, row, ("near", inside, corner, weights), ("most", (3, 1), False),
                  (("near", corner, corner, weights), ("near", inside, (1, 0, 1), weights),
                   ("near", inside, (-1, 0, 1), weights), ("near", inside, (1, -2, 1), weights),
                   ("near", inside, (-1, 2, 1), weights), ("near", (9, 1, 1), corner, weights),
                   ("near", inside, corner, (ONE, ONE, ZERO)), ("near", inside, corner, ((-2, 1), ONE, ZERO)),
                   ("near", inside, corner, ((2, 1), (2, 1), ZERO)), ("met", corner, weights),
                   ("endless", inside, (1, 1))))
        # Without a "gt" pair with a positive weight it shows nothing.
        self.refused(NotPaper, check_greatest, 2, TRIANGLE, (0, -1, 0), ("near", inside, corner, (ZERO, ONE, ZERO)),
                     word="near")

    def test_the_form_of_papers(self):
        weights = (ZERO, (2, 1), ONE)
        papers = NO_TUPLES + (
            (), ("none",), ("endless",), ("met",), ("near",), ("most", (4, 0, 1), weights),
            ("Met", (4, 0, 1), weights), (None, (4, 0, 1), weights), ([], (4, 0, 1), weights),
            ["met", (4, 0, 1), weights], ("met", (4, 0, 1)), ("met", (4, 0, 1), weights, ()),
            ("met", weights, (4, 0, 1)), ("met", (4, 0, 1), weights[:2]), ("met", (4, 0, 1), weights + (ZERO,)),
            ("met", (4, 0, 1), list(weights)), ("met", [4, 0, 1], weights), ("met", (4, 0, 0), weights),
            ("met", (8, 0, 2), weights), ("met", (4, 1), weights), ("met", None, weights),
            ("met", (4, False, 1), weights), ("met", (4, 0, 1), None), ("none", weights, weights),
            ("none", weights[:2]), ("none", None), ("none", list(weights)), ("none", (4, 0, 1)),
            ("endless", (1, 1, 1)), ("endless", (1, 1, 1), (1, 0, 0)), ("endless", (1, 1, 1), (0, 0)),
            ("endless", (1, 1, 1), (2, 0)), ("endless", (1, 1, 1), (True, 0)), ("endless", (1, 1, 1), [1, 0]),
            ("endless", (2, 2, 2), (1, 0)), ("endless", (1, 1, 1), (1, 0), (1, 0)), ("endless", (1, 1, 1), None),
            ("near", (1, 1, 1), weights), ("near", (1, 1, 1), (0, 0, 1), weights, ()),
            ("near", (2, 2, 2), (0, 0, 1), weights), ("near", (1, 1, 1), (0, 0, 2), weights),
            ("near", (1, 1, 1), (0, 0, 1), weights[:2]), ("near", (1, 1, 1), (0, 0, 1), list(weights)),
            ("near", (1, 1, 1), None, weights))
        for paper in papers:
            with self.subTest(repr(paper)):
                self.refused(NotPaper, check_greatest, 2, TRIANGLE, (1, 0, 0), paper, word="form")
        for value in NO_FRACTIONS:
            three = (ZERO, value, ONE)
            for paper in (("none", three), ("met", (4, 0, 1), three), ("near", (1, 1, 1), (0, 0, 1), three)):
                self.refused(NotPaper, check_greatest, 2, TRIANGLE, (1, 0, 0), paper, word="form")

    def test_papers_of_weights_bent(self):
        random = Random(7)
        bent = 0
        for dimension in (1, 2, 3):
            for system in some_systems(dimension, 80, 100 + dimension):
                row = tuple(random.randint(-3, 3) for _ in range(dimension + 1))
                found = greatest(dimension, system, row)
                paper = greatest_paper(dimension, system, row)
                if system and paper[0] in ("none", "met", "near"):
                    number = random.randrange(len(system))
                    weights = list(paper[-1])
                    weights[number] = (weights[number][0] + weights[number][1] * 3, weights[number][1])
                    self.no_other(dimension, system, row, paper[:-1] + (tuple(weights),), found)
                    bent += 1
        self.assertGreater(bent, 60)

    def no_other(self, dimension, system, row, paper, found):
        """A paper shows what is so, or nothing."""
        try:
            self.assertEqual(check_greatest(dimension, system, row, paper), found)
        except NotPaper as error:
            self.assertEqual(error.word, paper[0])


if __name__ == "__main__":
    unittest.main()
