"""Promise [1] over the whole program: arguments by position or by name, equal calls, plain values in and out."""

import importlib
import unittest

from formed import box
from helping import SolidCase
from onesolid.bars import common_or_between, few_bar
from onesolid.best import greatest_paper
from onesolid.bodies import body_of
from onesolid.corners import corner_paper
from onesolid.forms import form_of
from onesolid.hulls import in_hull
from onesolid.images import shifted
from onesolid.inout import mesh_of
from onesolid.kernels import not_star
from onesolid.ladders import parted
from onesolid.partings import parting
from onesolid.pieces import moving
from onesolid.sheets import history_text
from onesolid.ways import way_paper
from telling import PLANE
from told_names import FUNCTIONS

ROW = (2, 0, 1)
PLANES = ((0, 1, 0), (1, 0, 0), (1, 1, -3))
CELL = (1, 1, -1)
POINT = (1, 1, 2)
OTHER = (3, 0, 1)
LINE = ((1, 1, -2),)
SYSTEM = (("ge", (1, 0, 0)), ("ge", (0, 1, 0)), ("gt", (-1, -1, 4)))
BARRED = SYSTEM + (("ge", (1, 1, -9)),)
FORMULA = ("some", ("and", ("is", "lt", (1, 0, -1, 2)), ("not", ("is", "ge", (0, 1, 1, 0)))))
SQUARE = form_of(2, box(2, 0, 2))
BESIDE = shifted(SQUARE, (5, 1, 1))
CUBE = form_of(3, box(3))
SIMPLEX = ((0, 0, 1), (0, 2, 1), (3, 0, 1))
MESH = mesh_of(SQUARE)
SOLID_MESH = mesh_of(CUBE)
VIEW = ("eye", (-1, 1, 1), (1, 0), (0, 1), (1, 0), 2, 2)
CLAIM = ("within", "a", "square")
# For each parameter what most functions with it are given, of the plane.
COMMON = {
    "dimension": 2, "row": ROW, "point": POINT, "other_point": (0, 0, 1), "planes": PLANES, "signs": CELL, "flat": LINE,
    "system": SYSTEM, "formula": FORMULA, "form": SQUARE, "direction": (1, -2), "way": (2, -4), "points": SIMPLEX,
    "simplex": SIMPLEX, "mesh": MESH, "view": VIEW, "scene": (BESIDE, SQUARE), "history": PLANE, "name": "a",
    "claim": CLAIM,
    "cells": (CELL,), "many": 2, "table": ((1, 2, 0), (0, 1, 3)), "body": body_of(2, SYSTEM), "number": "b", "cuts": (),
    "lights": (("far", (-1, 1)),), "steps": 9, "plane": (1, 1, -2), "rays": ((1, 1),), "lines": (), "text": "lt 1 0 2",
    "forms": (SQUARE, BESIDE), "far": (1, 1, 1), "rows": LINE, "path": (1,), "part": ("and",), "flats": (LINE,),
    "weights": few_bar(2, BARRED), "numbers": (4, -6), "coordinates": ((1, 2), (-3, 4)), "amount": (3, 2), "top": 4,
    "bottom": -6, "fresh": "zz", "entry": (5, (("a", 2),)), "ladder": parted(SQUARE, BESIDE)[1],
}
TWO_SETS = ("deeds", "partings", "sums", "ladders", "pieces", "nearest")
SPECIAL = {
    ("numbers", "check_fraction"): {"value": (1, 2)},
    ("points", "check_point"): {"value": POINT}, ("points", "check_direction"): {"value": (1, 2)},
    ("points", "direction_to"): {"other": OTHER}, ("rows", "check_row"): {"value": ROW},
    ("rows", "check_plane"): {"value": (1, 0, 2)}, ("flats", "check_flat"): {"value": LINE},
    ("flats", "flat_in"): {"other": ()}, ("flats", "flat_meet"): {"other": ((1, -1, 0),)},
    ("flats", "flat_sum"): {"other": LINE},
    ("formulas", "check_formula"): {"value": FORMULA}, ("formulas", "is_formula"): {"value": FORMULA},
    ("formulas", "put_at"): {"part": ("and",)}, ("holding", "put_through"): {"row": (1, 1, 1)},
    ("holding", "places"): {"formula": FORMULA[1]}, ("holding", "enough"): {"formula": FORMULA[1]},
    ("texts", "formula_text"): {"formula": FORMULA}, ("texts", "read_point"): {"text": "1 1 2"},
    ("taking", "lifted"): {"point": (1, 2)}, ("bars", "is_bar"): {"system": BARRED},
    ("bars", "few_bar"): {"system": BARRED},
    ("bars", "common_or_between"): {"other": BARRED[3:]},
    ("bars", "check_between"): {"other": BARRED[3:], "paper": common_or_between(2, SYSTEM, BARRED[3:])},
    ("best", "check_greatest"): {"paper": greatest_paper(2, SYSTEM, ROW)},
    ("bodies", "is_body"): {"value": body_of(2, SYSTEM)},
    ("bodies", "same_set"): {"other": BARRED}, ("bodies", "set_within"): {"other": BARRED},
    ("bodies", "parting_of"): {"other": BARRED}, ("corners",
                                                  "check_corners"): {"paper": corner_paper(2, SIMPLEX, ((1, 1),),
                                                                                           POINT)},
    ("cells", "check_planes"): {"value": PLANES}, ("cells", "check_cell"): {"value": CELL},
    ("cells", "is_cell"): {"value": CELL},
    ("faces", "toward"): {"signs": (0, 1, 0), "other": CELL}, ("faces", "step_through"): {"other": OTHER},
    ("meets", "meet_weights"): {"flat": ((1, 0, 0),)}, ("counts", "cells_on"): {"flat": ((1, 0, 0),)},
    ("looks", "hangs_on"): {"flat": ()}, ("forms", "need_form"): {"value": SQUARE},
    ("forms", "form_of"): {"formula": box(2)},
    ("partings", "check_parting"): {"value": parting(SQUARE, BESIDE)}, ("images", "slice_at"): {"value": (1, 2)},
    ("images", "scaled"): {"value": (-1, 2)}, ("hulls", "check_hull"): {"paper": in_hull(SQUARE, POINT)},
    ("ladders", "check_parted"): {"paper": parted(SQUARE, BESIDE)}, ("simplices", "check_simplex"): {"value": SIMPLEX},
    ("simplices", "middle"): {"other": OTHER}, ("simplices", "cut_simplex"): {"one": 0, "other": 2},
    ("simplices", "led_point"): {"other": ((0, 0, 1), (1, 0, 1), (1, 1, 1))},
    ("cuttings", "cutting_in"): {"signs": SQUARE[2][0]},
    ("pieces", "check_moving"): {"value": moving(SQUARE, BESIDE)}, ("pieces",
                                                                    "moved_point"): {"value": moving(SQUARE, BESIDE)},
    ("ways", "same_part"): {"other": (1, 0, 1)}, ("ways", "way_paper"): {"other": (1, 0, 1)},
    ("ways", "check_way"): {"other": (1, 0, 1), "paper": way_paper(SQUARE, POINT, (1, 0, 1))},
    ("rims", "handles_of"): {"form": CUBE},
    ("rays", "is_seen"): {"other": OTHER}, ("rays", "is_straight_in"): {"other": OTHER},
    ("kernels", "check_star"): {"paper": not_star(SQUARE, POINT)}, ("mirrors", "bounces"): {"point": (-1, 1, 2),
                                                                                            "way": (2, 0)},
    ("nearest", "is_nearest_pair"): {"value": ((2, 2, 1), (5, 2, 1))}, ("pictures", "need_view"): {"value": VIEW},
    ("meshes", "check_mesh"): {"value": MESH}, ("meshes", "met"): {"direction": (1, 5)},
    ("meshes", "mesh_corners"): {"mesh": SOLID_MESH},
    ("meshes", "mesh_edges"): {"mesh": SOLID_MESH}, ("meshes", "mesh_euler"): {"mesh": SOLID_MESH},
    ("histories", "check_history"): {"value": PLANE}, ("histories", "entry_worth"): {"numbers": PLANE[1]},
    ("histories", "exchanged"): {"name": "far"},
    ("sheets", "read_history"): {"text": history_text(PLANE)}, ("sheets",
                                                                "judged"): {"text": history_text(PLANE) + "\nempty a"},
}
PLAIN = (int, bool, str, type(None))


def arguments(file, name, parameters):
    known = dict(COMMON)
    if file in TWO_SETS:
        known["other"] = BESIDE
    if file == "numbers":
        known.update(one=(1, 2), other=(-3, 4))
    known.update(SPECIAL.get((file, name), {}))
    return [known[parameter] for parameter in parameters]


def is_plain(value):
    return type(value) in PLAIN or (type(value) is tuple and all(is_plain(part) for part in value))


class Whole(SolidCase):

    def test_by_position_and_by_name(self):
        many = 0
        for file, functions in FUNCTIONS.items():
            module = importlib.import_module("onesolid." + file)
            for name, parameters in functions.items():
                with self.subTest(f"{file}.{name}"):
                    given = arguments(file, name, parameters)
                    function = getattr(module, name)
                    found = function(*given)
                    self.assertTrue(is_plain(found), found)
                    self.same(function(**dict(zip(parameters, given))), found)
                    self.same(function(**dict(list(zip(parameters, given))[::-1])), found)
                    self.same(function(*given), found)
                    many += 1
        self.assertEqual(many, sum(len(functions) for functions in FUNCTIONS.values()))
        self.assertGreater(many, 240)


if __name__ == "__main__":
    unittest.main()
