"""Promise [56]: whether two points belong to one part of a set, and papers that show it."""

import unittest
from random import Random

from formed import ALL, EMPTY, box, some_forms, told_forms
from helping import NO_TUPLES, SolidCase
from onesolid.cells import cell_dimension, point_in
from onesolid.deeds import inner, less, rest
from onesolid.errors import Empty, NotPaper, NotPoint
from onesolid.faces import step_through
from onesolid.forms import form_of
from onesolid.parts import lot_parts, part_with
from onesolid.ways import check_way, same_part, way_paper

RING = less(form_of(2, box(2, 0, 3)), form_of(2, box(2, 1, 2, ("gt", "lt"))))
# Two squares that touch at a corner, and without it.
CORNERED = form_of(2, ("or", box(2), box(2, 1, 2)))
ALMOST = form_of(2, ("or", box(2, 0, 1, ("ge", "lt")), box(2, 1, 2, ("gt", "le"))))
LOW, HIGH = (1, 1, 2), (3, 3, 2)


class SamePart(SolidCase):

    def test_worked_by_hand(self):
        self.assertIs(same_part(form=RING, point=(1, 1, 2), other=(5, 5, 2)), True)
        self.assertIs(same_part(CORNERED, LOW, HIGH), True)
        self.assertIs(same_part(ALMOST, LOW, HIGH), False)
        self.assertIs(same_part(inner(CORNERED), LOW, HIGH), False)
        self.assertIs(same_part(rest(RING), (3, 3, 2), (9, 9, 1)), False)
        self.assertIs(same_part(rest(RING), (-1, -1, 1), (9, 9, 1)), True)
        self.assertIs(same_part(ALL[1], (-1, 1), (9, 1)), True)
        self.assertIs(same_part(rest(form_of(1, ("is", "eq", (1, 0)))), (-1, 1), (9, 1)), False)
        self.assertIs(same_part(RING, (1, 0, 1), (1, 0, 1)), True)

    def test_by_the_parts(self):
        random = Random(340)
        for dimension, many in ((1, 20), (2, 15), (3, 6)):
            for form in some_forms(dimension, many, 5, 341):
                parts = lot_parts(*form)
                for _ in range(10):
                    if form[2]:
                        one, other = random.choice(form[2]), random.choice(form[2])
                        wanted = any(one in part and other in part for part in parts)
                        points = [point_in(dimension, form[1], signs) for signs in (one, other)]
                        self.assertIs(same_part(form, *points), wanted)
                        paper = way_paper(form, *points)
                        self.assertEqual(paper[0], "way" if wanted else "apart")
                        self.same(check_way(form, *points, paper), paper[0])


class Refusals(SolidCase):

    def calls(self):
        yield same_part
        yield way_paper
        yield lambda form, point, other: check_way(form, point, other, ("way", (point, other)))
        yield lambda form, point, other: check_way(form, point, other, None)

    def test_what_is_wrong_first(self):
        for call in self.calls():
            self.refuses_what_is_no_point(lambda value: call(RING, value, (0, 0, 1)))
            self.refuses_what_is_no_point(lambda value: call(RING, (0, 0, 1), value))
            # What is no point ahead of what does not belong, the first one ahead of the other one.
            self.refused(NotPoint, call, RING, (3, 3, 2), (2, 2, 2), place=-2)
            self.refused(NotPoint, call, RING, (2, 2, 2), (1, 2), place=-2)
            self.refused(NotPoint, call, RING, (1, 2), (2, 2, 2), place=-1)
            self.refused(Empty, call, RING, (3, 3, 2), (0, 0, 1))
            self.refused(Empty, call, RING, (0, 0, 1), (3, 3, 2))
            self.refused(Empty, call, RING, (3, 3, 2), (3, 3, 2))
            self.refused(Empty, call, EMPTY[2], (0, 0, 1), (0, 0, 1))


class WayPaper(SolidCase):

    def test_worked_by_hand(self):
        paper = way_paper(form=ALMOST, point=LOW, other=HIGH)
        self.assertEqual(paper[0], "apart")
        self.assertEqual(len(paper[1]), 4)
        for form, point, other in ((RING, (0, 0, 1), (0, 0, 1)), (RING, (1, 1, 4), (3, 3, 4)),
                                   (RING, (0, 0, 1), (3, 3, 1)),
                                   (CORNERED, LOW, HIGH), (ALL[3], (0, 0, 0, 1), (7, 7, 7, 2))):
            word, points = way_paper(form, point, other)
            self.assertEqual(word, "way")
            self.assertEqual((points[0], points[-1]), (point, other))
            for one, far in zip(points, points[1:]):
                self.assertEqual([signs for signs in step_through(form[0], form[1], one, far) if signs not in form[2]],
                                 [])
            self.same(way_paper(form, point, other), (word, points))

    def test_right_ones(self):
        for points in (((0, 0, 1),), ((0, 0, 1), (0, 0, 1)), ((0, 0, 1), (3, 0, 1), (3, 3, 1), (0, 3, 1), (0, 0, 1))):
            self.same(check_way(RING, (0, 0, 1), (0, 0, 1), ("way", points)), "way")
        self.same(check_way(form=CORNERED, point=LOW, other=HIGH, paper=("way", (LOW, HIGH))), "way")
        self.same(check_way(CORNERED, LOW, HIGH, ("way", (LOW, (1, 1, 1), HIGH))), "way")
        # Along the rim of the hole.
        self.same(check_way(RING, (1, 1, 1), (2, 2, 1), ("way", ((1, 1, 1), (2, 1, 1), (2, 2, 1)))), "way")
        four = form_of(2, ("or", *[box(2, k, k + 1, ("gt", "lt")) for k in range(4)]))
        cells = sorted(lot_parts(*four)[0] + lot_parts(*four)[2])
        point = point_in(2, four[1], lot_parts(*four)[0][0])
        other = point_in(2, four[1], lot_parts(*four)[1][0])
        self.same(check_way(four, point, other, ("apart", tuple(cells))), "apart")
        self.same(check_way(four, point, other, ("apart", lot_parts(*four)[0])), "apart")

    def test_form(self):
        for value in NO_TUPLES + ((), ("way",), ("apart",), ("way", (LOW, HIGH), 1), ("apart", (), ()),
                                  ("Way", (LOW, HIGH)),
                                  ("", (LOW, HIGH)), (None, (LOW, HIGH)), (0, (LOW, HIGH)), (("way",), (LOW, HIGH))):
            self.refused(NotPaper, check_way, CORNERED, LOW, HIGH, value, word="form")

    def test_ways_that_are_none(self):
        wrong = NO_TUPLES + ((), (LOW,), (HIGH,), (HIGH, LOW), (LOW, HIGH, LOW), (HIGH, LOW, HIGH),
                             (LOW, (5, 5, 1), HIGH),
                             (LOW, (1, 2, 1), HIGH), (LOW, (2, 2, 2), HIGH), (LOW, (1, 1), HIGH),
                             (LOW, (1, 1, 0), HIGH),
                             (LOW, [1, 1, 1], HIGH), (LOW, (1, True, 1), HIGH), (LOW, (1, 1.0, 1), HIGH),
                             (LOW, None, HIGH),
                             [LOW, HIGH], LOW + HIGH, (LOW, (0, 1, 1), HIGH))
        for value in wrong:
            self.refused(NotPaper, check_way, CORNERED, LOW, HIGH, ("way", value), word="way")
        self.refused(NotPaper, check_way, RING, (0, 0, 1), (3, 3, 1), ("way", ((0, 0, 1), (3, 3, 1))), word="way")
        self.refused(NotPaper, check_way, ALMOST, LOW, HIGH, ("way", (LOW, HIGH)), word="way")
        self.refused(NotPaper, check_way, RING, (1, 1, 1), (1, 2, 1), ("way", ((1, 1, 1), (2, 2, 1), (1, 2, 1))),
                     word="way")

    def test_cells_that_keep_nothing_apart(self):
        right = way_paper(ALMOST, LOW, HIGH)[1]
        self.same(check_way(ALMOST, LOW, HIGH, ("apart", right)), "apart")
        self.same(check_way(ALMOST, HIGH, LOW, ("apart", way_paper(ALMOST, HIGH, LOW)[1])), "apart")
        outside = (1,) * len(ALMOST[1])
        self.assertNotIn(outside, ALMOST[2])
        wrong = NO_TUPLES + ((), right[::-1], right[:1] + right, right + right[-1:], list(right), ALMOST[2],
                             right + ((),),
                             tuple(sorted(right + (outside,))), (None,), right[:-1] + (list(right[-1]),), (((0,),),))
        for number in range(len(right)):
            wrong += (right[:number] + right[number + 1:],)
        for value in wrong:
            self.refused(NotPaper, check_way, ALMOST, LOW, HIGH, ("apart", value), word="apart")
        # A cell beside the part, but not of the set.
        planes = ALMOST[1]
        self.same(planes[1::2], ((0, 1, -1), (1, 0, -2), (1, 0, 0)))
        beside = tuple(-1 for _ in planes)
        self.refused(NotPaper, check_way, ALMOST, LOW, HIGH, ("apart", tuple(sorted(right + (beside,)))), word="apart")
        # The part of the other point.
        self.refused(NotPaper, check_way, ALMOST, HIGH, LOW, ("apart", right), word="apart")
        self.refused(NotPaper, check_way, ALMOST, LOW, LOW, ("apart", right), word="apart")
        for signs in right:
            for place, sign in enumerate(signs):
                for value in (float(sign), sign == 1):
                    bent = tuple(own[:place] + (value,) + own[place + 1:] if own == signs else own for own in right)
                    self.refused(NotPaper, check_way, ALMOST, LOW, HIGH, ("apart", bent), word="apart")

    def test_of_any_two_points_there_are_papers_with_one_word(self):
        random = Random(342)
        for form in told_forms(2, 30, 343):
            points = [point_in(2, form[1], signs) for signs in form[2] if cell_dimension(2, form[1], signs) < 2][:4]
            for point in points:
                other = random.choice(points)
                parts = lot_parts(*form)
                own = next(part for part in parts if part_with(form, point)
                           and any(point == point_in(2, form[1], signs) for signs in part))
                word = check_way(form, point, other, way_paper(form, point, other))
                self.assertEqual(word == "way", any(other == point_in(2, form[1], signs) for signs in own))
                if word == "way":
                    self.refused(NotPaper, check_way, form, point, other, ("apart", own), word="apart")
                else:
                    self.refused(NotPaper, check_way, form, point, other, ("way", (point, other)), word="way")


if __name__ == "__main__":
    unittest.main()
