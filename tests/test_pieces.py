"""Promise [53]: bounded sets cut into pieces, and movings of one set to another one."""

import unittest
from random import Random

from formed import ALL, EMPTY, bounded_forms, box, lone, points_of_line, unit
from helping import NO_INTEGERS, NO_TUPLES, SolidCase
from onesolid.cells import point_in
from onesolid.cuttings import cutting, euler
from onesolid.deeds import either, inner, less
from onesolid.errors import Endless, NotPaper, Unlike
from onesolid.forms import dimension_of, form_of, has_point
from onesolid.images import shifted
from onesolid.pieces import check_moving, is_moved, moved_point, moving, pieces
from onesolid.simplices import check_simplex, cut_simplex, in_simplex, led_point

DIMENSIONS = (1, 2, 3)
SQUARE = form_of(2, box(2))
CUBE = form_of(3, box(3))
STRETCH = form_of(1, box(1, 0, 2))
RING = less(form_of(2, box(2, 0, 3)), form_of(2, box(2, 1, 2, ("gt", "lt"))))
HALF = form_of(2, ("is", "ge", (1, 0, 0)))


def piece_with(found, point):
    """The number of the only piece with a point."""
    numbers = [number for number, piece in enumerate(found) if in_simplex(piece, point)]
    assert len(numbers) == 1
    return numbers[0]


class Pieces(SolidCase):

    def test_worked_by_hand(self):
        a, m, b = (0, 1), (1, 1), (2, 1)
        self.same(pieces(form=STRETCH, cuts=()), ((a,), (b,), (a, b)))
        self.same(pieces(STRETCH, ((2, 0, 1),)), ((a,), (b,), (a, m), (m, b), (m,)))
        # With the corners the other way round the first one stays, and both halves change places.
        self.same(pieces(STRETCH, ((2, 1, 0),)), ((a,), (b,), (m, b), (a, m), (m,)))
        self.same(pieces(STRETCH, ((2, 0, 1), (3, 1, 0))), ((a,), (b,), (a, m), (b, (3, 2)), (m,), (m, (3, 2)),
                                                            ((3, 2),)))
        for dimension in DIMENSIONS:
            self.same(pieces(EMPTY[dimension], ()), ())

    def test_one_after_the_other(self):
        random = Random(320)
        for dimension in DIMENSIONS:
            for form in bounded_forms(dimension, 4, 321):
                found = list(cutting(form))
                cuts = []
                for _ in range(6):
                    numbers = [number for number, piece in enumerate(found) if len(piece) > 1]
                    if numbers:
                        number = random.choice(numbers)
                        one, other = random.sample(range(len(found[number])), 2)
                        cuts.append((number, one, other))
                        first, second, wall = cut_simplex(found[number], one, other)
                        found[number] = first
                        found += [second, wall]
                self.same(pieces(form, tuple(cuts)), tuple(found))
                for signs in form[2][:8]:
                    piece_with(found, point_in(dimension, form[1], signs))
                for piece in found:
                    check_simplex(dimension, piece)

    def test_what_is_no_cut(self):
        for value in NO_TUPLES:
            self.refused(NotPaper, pieces, STRETCH, value, word="cut")
            self.refused(NotPaper, pieces, STRETCH, (value,), word="cut")
        for value in ((), (2,), (2, 0), (2, 0, 1, 0), (3, 0, 1), (-1, 0, 1), (2, 0, 0), (2, 0, 2), (2, -1, 0),
                      (2, 2, 1),
                      (0, 0, 1), (0, 0, 0), (1, 1, 0)):
            self.refused(NotPaper, pieces, STRETCH, (value,), word="cut")
            self.refused(NotPaper, pieces, STRETCH, ((2, 0, 1), (2, 0, 1), value[:1] + ("x",)), word="cut")
        for value in NO_INTEGERS:
            for cut in ((value, 0, 1), (2, value, 1), (2, 0, value)):
                self.refused(NotPaper, pieces, STRETCH, (cut,), word="cut")
        # The piece is not there yet, or is a point by then.
        self.refused(NotPaper, pieces, STRETCH, ((3, 0, 1),), word="cut")
        self.refused(NotPaper, pieces, STRETCH, ((2, 0, 1), (4, 0, 1)), word="cut")
        self.refused(NotPaper, pieces, STRETCH, (2, 0, 1), word="cut")
        self.refused(NotPaper, pieces, EMPTY[2], ((0, 0, 1),), word="cut")
        self.refused(Endless, pieces, HALF, ())
        self.refused(Endless, pieces, HALF, None)


class Moved(SolidCase):

    def test_worked_by_hand(self):
        self.assertIs(is_moved(form=SQUARE, other=RING), False)
        self.assertIs(is_moved(SQUARE, form_of(2, box(2, -5, 9))), True)
        self.assertIs(is_moved(SQUARE, CUBE), False)
        # Of unlike spaces: a stretch of the line and one of space.
        slant = form_of(3, ("and", ("is", "eq", (1, -1, 0, 0)), ("is", "eq", (0, 1, 0, -2)), ("is", "ge", (0, 0, 1, 0)),
                            ("is", "le", (0, 0, 1, -7))))
        self.assertIs(is_moved(STRETCH, slant), True)
        self.assertIs(is_moved(inner(STRETCH), slant), False)
        # Like dimension and unlike euler, like euler and unlike dimension.
        self.assertIs(is_moved(points_of_line((1, 2)), points_of_line((1, 2, 3))), False)
        self.assertIs(is_moved(points_of_line((1,)), STRETCH), False)
        self.assertIs(is_moved(EMPTY[1], EMPTY[3]), True)
        self.assertIs(is_moved(EMPTY[2], form_of(2, box(2, 0, 1, ("ge", "lt")))), False)
        for call in (is_moved, moving):
            self.refused(Endless, call, HALF, SQUARE)
            self.refused(Endless, call, SQUARE, HALF)
            self.refused(Endless, call, ALL[1], SQUARE)
            self.refused(Endless, call, CUBE, HALF)
        self.refused(Unlike, moving, SQUARE, RING)
        self.refused(Unlike, moving, EMPTY[1], SQUARE)

    def test_movings(self):
        forms = [EMPTY[1], EMPTY[2], STRETCH, SQUARE, CUBE, RING, inner(SQUARE), inner(CUBE), points_of_line((1, 5, 9)),
                 form_of(2, ("or", lone(0, 0), lone(5, 1), lone(2, 2))), form_of(2, box(2, 0, 1, ("ge", "lt"))),
                 either(SQUARE, form_of(2, lone(7, 7))), form_of(2, ("or", box(2), box(2, 3, 5, ("gt", "lt"))))]
        for dimension in DIMENSIONS:
            forms += list(bounded_forms(dimension, 2, 322))
        many = 0
        for form in forms:
            for other in forms:
                like = (dimension_of(form), euler(form)) == (dimension_of(other), euler(other))
                self.assertIs(is_moved(form, other), like)
                if like:
                    many += 1
                    found = moving(form=form, other=other)
                    self.assertIs(check_moving(form, other, found), found)
                    self.same(moving(form, other), found)
                    self.led_there_and_back(form, other, found)
        self.assertGreater(many, 40)

    def led_there_and_back(self, form, other, value):
        cuts, others, match = value
        found, targets = pieces(form, cuts), pieces(other, others)
        back = (others, cuts, tuple(match.index(number) for number in range(len(match))))
        check_moving(other, form, back)
        for piece, number in list(zip(found, match))[::7]:
            corner = piece[0]
            middle = led_point(targets[number], piece, point_within(targets[number]))
            if len(piece) == 1:
                self.assertEqual(middle, corner)
            led = moved_point(form=form, other=other, value=value, point=middle)
            self.same(led, led_point(piece, targets[number], middle))
            self.assertTrue(has_point(other, led))
            self.assertEqual(piece_with(targets, led), number)
            self.same(moved_point(other, form, back, led), middle)

    def test_led_by_hand(self):
        other = shifted(STRETCH, (10, 1))
        value = (((2, 0, 1),), ((2, 0, 1),), (1, 0, 3, 2, 4))
        self.assertIs(check_moving(STRETCH, other, value), value)
        self.same(moved_point(STRETCH, other, value, (0, 1)), (12, 1))
        self.same(moved_point(STRETCH, other, value, (1, 1)), (11, 1))
        self.same(moved_point(STRETCH, other, value, (1, 2)), (23, 2))
        self.same(moved_point(STRETCH, other, value, (3, 2)), (21, 2))


def point_within(simplex):
    """A point of the open simplex."""
    point = simplex[0]
    for corner in simplex[1:]:
        point = cut_simplex(tuple(sorted((point, corner))), 0, 1)[2][0]
    return point


class CheckMoving(SolidCase):

    def refuses(self, word, value, form=STRETCH, other=STRETCH):
        self.refused(NotPaper, check_moving, form, other, value, word=word)

    def test_form(self):
        for value in NO_TUPLES + ((), ((),), ((), ()), ((), (), (), ())):
            self.refuses("form", value)
        for value in NO_TUPLES:
            self.refuses("form", (value, (), (0, 1, 2)))
            self.refuses("form", ((), value, (0, 1, 2)))
            self.refuses("form", ((("x",),), (), value))

    def test_cuts(self):
        for cut in ((2, 0, 0), (3, 0, 1), (0, 0, 1), (2, 0, True), (2, 0), [2, 0, 1], None, 2):
            self.refuses("cut", ((cut,), (cut,), ()))
            self.refuses("other", ((), (cut,), ()))
            self.refuses("other", (((2, 0, 1),), ((2, 0, 1), cut[:1] if isinstance(cut, tuple) else cut), ()))

    def test_match(self):
        self.same(check_moving(form=STRETCH, other=STRETCH, value=((), (), (1, 0, 2))), ((), (), (1, 0, 2)))
        for match in ((), (0, 1), (0, 1, 2, 3), (0, 1, 1), (0, 1, 3), (-1, 0, 1), (0, 2, 2), (0, 1, 2.0), (0, True, 2),
                      (False, 1, 2), (0, 1, None), (0, 1, "2"), (0, 1, (2,))):
            self.refuses("match", ((), (), match))
        # As many as one of both has pieces.
        self.refuses("match", (((2, 0, 1),), (), (0, 1, 2)))
        self.refuses("match", (((2, 0, 1),), (), (0, 1, 2, 3, 4)))
        self.refuses("match", ((), ((2, 0, 1),), (0, 1, 2)))
        self.refuses("match", ((), ((2, 0, 1),), (0, 1, 2, 3, 4)))
        for match in ((2, 1, 0), (0, 2, 1), (1, 2, 0), (2, 0, 1)):
            self.refuses("unlike", ((), (), match))

    def test_endless_comes_first(self):
        for value in (None, ((), (), ())):
            self.refused(Endless, check_moving, HALF, SQUARE, value)
            self.refused(Endless, check_moving, SQUARE, HALF, value)

    def test_of_empty_sets(self):
        self.same(check_moving(EMPTY[1], EMPTY[2], ((), (), ())), ((), (), ()))
        self.same(moving(EMPTY[1], EMPTY[2]), ((), (), ()))
        self.refuses("match", ((), (), (0,)), EMPTY[1], EMPTY[2])
        self.refuses("match", ((), (), ()), EMPTY[1], STRETCH)
        self.refuses("match", ((), (), (0, 1, 2)), EMPTY[1], STRETCH)
        self.refuses("cut", (((0, 0, 1),), (), ()), EMPTY[1], EMPTY[2])

    def test_unlike_spaces(self):
        slant = form_of(2, ("and", ("is", "eq", (1, -1, 0)), ("is", "ge", unit(2, 0)), ("is", "le", unit(2, 0, -3))))
        value = ((), (), (1, 0, 2))
        self.assertIs(check_moving(STRETCH, slant, value), value)
        self.same(moved_point(STRETCH, slant, value, (1, 2)), (3, 3, 4))
        self.same(moved_point(slant, STRETCH, value, (3, 3, 4)), (1, 2))


if __name__ == "__main__":
    unittest.main()
