"""Promise [79]: the tables by which sets are drawn along a direction."""

import unittest
from random import Random

from formed import some_forms
from helping import SolidCase, numbers_at
from making import small_points
from onesolid.errors import TooGreat
from onesolid.features import lined
from onesolid.forms import formula_of, has_point
from onesolid.formulas import is_formula
from onesolid.histories import set_of
from onesolid.holding import point_led
from onesolid.points import direction_of, moved_by
from onesolid.rays import line_stretches


class Lined(SolidCase):

    def test_worked_by_hand(self):
        self.same(lined(dimension=2, direction=(3, 5)), (((0, 3, 0), (1, 5, 0)), ((-5, 3, 0),)))
        self.same(lined(2, (0, -1)), (((1, 0, 0), (0, -1, 0)), ((-1, 0, 0),)))
        self.same(lined(3, (2, 3, -5)), (((0, 0, 2, 0), (1, 0, 3, 0), (0, 1, -5, 0)), ((-3, 2, 0, 0), (5, 0, 2, 0))))
        self.same(lined(3, (0, 7, 4)), (((1, 0, 0, 0), (0, 0, 7, 0), (0, 1, 4, 0)), ((7, 0, 0, 0), (0, -4, 7, 0))))
        self.same(lined(3, (0, 0, 1)), (((1, 0, 0, 0), (0, 1, 0, 0), (0, 0, 1, 0)), ((1, 0, 0, 0), (0, 1, 0, 0))))

    def test_what_the_tables_do(self):
        random = Random(460)
        for dimension in (2, 3):
            for point in small_points(dimension, 40, 461):
                numbers = tuple(random.randint(-3, 3) for _ in range(dimension))
                if not any(numbers):
                    continue
                direction = direction_of(numbers)
                along, across = lined(dimension, direction)
                own = next(place for place, step in enumerate(direction) if step != 0)
                # The second table tells points of one line alike, and of two lines not.
                self.same(point_led(across, moved_by(point, direction, (7, 3))), point_led(across, point))
                other = moved_by(point, tuple(int(place == (own + 1) % dimension) for place in range(dimension)),
                                 (1, 1))
                self.assertNotEqual(point_led(across, other), point_led(across, point))
                # The first one leads along the line, and there is the line that the second one tells, scaled.
                one, two = point_led(along, point), point_led(along, moved_by(point, (0,) * (dimension - 1) + (1,),
                                                                              (1, 1)))
                self.assertEqual([b - a for a, b in zip(numbers_at(one), numbers_at(two))], list(direction))
                self.assertEqual(numbers_at(point_led(across, one)),
                                 [direction[own] * x for x in numbers_at(point)[:-1]])

    def test_along_and_always(self):
        random = Random(462)
        for dimension, many in ((1, 20), (2, 20), (3, 5)):
            for form in some_forms(dimension, many, 3, 463):
                formula = formula_of(form)
                if not is_formula(dimension, formula):
                    continue
                numbers = tuple(random.randint(-2, 2) for _ in range(dimension))
                direction = direction_of(numbers) if any(numbers) else (1,) * dimension
                for word in ("along", "always"):
                    value = (dimension, (), (("a", ("of", formula)), ("b", (word, direction, "a"))))
                    try:
                        found = set_of(value, "b")
                    except TooGreat:
                        continue
                    for point in small_points(dimension, 12, random.random()):
                        stretches = line_stretches(form, point, direction)
                        wanted = stretches != () if word == "along" else stretches == ((None, False, None, False),)
                        self.assertIs(has_point(found, point), wanted)


if __name__ == "__main__":
    unittest.main()
