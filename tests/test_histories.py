"""Promises [74] to [78] and [80]: histories, what is told of them, and their outcomes."""

import unittest
from random import Random

from formed import EMPTY, box, in_form, lone
from helping import NO_INTEGERS, NO_TUPLES, SolidCase, numbers_at
from making import small_points
from onesolid.deeds import all_of, any_of, closed, inner, less, rest, rim
from onesolid.errors import NotFormula, NotHistory, NotName, TooGreat, Unlike
from onesolid.features import lined
from onesolid.forms import form_of
from onesolid.histories import (all_looks, all_names, all_users, build, check_history, entry_worth, exchanged, looks_of,
                                names_of, renamed, set_of, swept, telling_with, users_of)
from onesolid.hulls import hull_of
from onesolid.images import drawn_back, full_shadow, scaled, shadow, shifted
from onesolid.rays import line_stretches
from onesolid.sums import shrunk, sum_of
from telling import NAMES, PLANE, QUICK, WORDS, some_histories

OPEN = ("of", ("and",))
NO_NAMES = ("", "A", "aB", "a b", "abcdefghi", "a1", "-", "\u00e4", " a", "a\n") + tuple(
    value for value in NO_TUPLES if value not in ("is",))


def history(*features, numbers=(), dimension=1):
    return (dimension, tuple(numbers), features)


def changed(value, path, fresh):
    """A value with another thing at a path."""
    if not path:
        return fresh
    return value[:path[0]] + (changed(value[path[0]], path[1:], fresh),) + value[path[0] + 1:]


class CheckHistory(SolidCase):

    def test_right_ones(self):
        self.assertIs(check_history(value=PLANE), PLANE)
        for dimension in (1, 2, 3):
            for value in some_histories(dimension, 25, 7, WORDS, 450):
                self.assertIs(check_history(value), value)
        # A feature and a number with one name; names of 8 letters; names that are words.
        for value in (history(("a", OPEN), numbers=(("a", 0),)), history(("abcdefgh", OPEN),
                                                                         ("zzzzzzzz", ("same", "abcdefgh"))),
                      history(("solid", OPEN), ("not", ("not", "solid")), ("space", ("same", "not")))):
            self.assertIs(check_history(value), value)

    def test_triples(self):
        for value in NO_TUPLES + ((), (1, ()), (1, (), (("a", OPEN),), 1), list(PLANE)):
            self.refused(NotHistory, check_history, value, place=())
        for value in NO_INTEGERS + (0, 4, -1, 10 ** 30):
            self.refused(NotHistory, check_history, (value, None, None), place=())

    def test_numbers(self):
        good = (("a", OPEN),)
        for value in NO_TUPLES:
            self.refused(NotHistory, check_history, (1, value, None), place=(1,))
            self.refused(NotHistory, check_history, (1, (("a", 1), value), None), place=(1, 1))
        for value in NO_NAMES:
            self.refused(NotHistory, check_history, (1, (("a", 1), (value, 1)), None), place=(1, 1))
        for value in NO_INTEGERS + (10 ** 6 + 1, -10 ** 6 - 1):
            self.refused(NotHistory, check_history, (1, (("a", 1), ("b", value)), None), place=(1, 1))
        for value in ((), ("b",), ("b", 1, 1), ["b", 1], ("a", 2), ("a", 1)):
            self.refused(NotHistory, check_history, (1, (("a", 1), value), None), place=(1, 1))
        self.refused(NotHistory, check_history, (1, (("b", 1), ("a", 1), None), None), place=(1, 1))
        self.refused(NotHistory, check_history, (1, (None, ("a", 1), None), None), place=(1, 0))
        for number in (10 ** 6, -10 ** 6):
            self.same(check_history((1, (("a", number),), good)), (1, (("a", number),), good))
        many = tuple(("a" + chr(97 + k), k) for k in range(21))
        self.same(check_history((1, many[:20], good)), (1, many[:20], good))
        self.refused(NotHistory, check_history, (1, many, good), place=(1,))
        self.refused(NotHistory, check_history, (1, many[:19] + (None, None), good), place=(1,))

    def test_features(self):
        for value in NO_TUPLES + ((),):
            self.refused(NotHistory, check_history, (1, (), value), place=(2,))
            self.refused(NotHistory, check_history, (1, (), (("a", OPEN), value)), place=(2, 1))
        for value in NO_NAMES + ("a",):
            self.refused(NotHistory, check_history, history(("a", OPEN), (value, OPEN), None), place=(2, 1))
        for value in (("b",), ("b", OPEN, 1), ["b", OPEN], ("b", None), ("b", ()), ("b", "of")):
            self.refused(NotHistory, check_history, history(("a", OPEN), value), place=(2, 1))
        many = tuple((a + b, OPEN) for a in "abcdefg" for b in "abcdef")
        self.assertEqual(len(check_history((1, (), many[:40]))[2]), 40)
        self.refused(NotHistory, check_history, (1, (), many[:41]), place=(2,))
        self.refused(NotHistory, check_history, (1, (), (None,) * 41), place=(2,))

    def wrong(self, telling, dimension=2, numbers=(("n", 1),)):
        value = (dimension, numbers, (("a", OPEN), ("b", OPEN), ("c", telling), None))
        self.refused(NotHistory, check_history, value, place=(2, 2))

    def right(self, telling, dimension=2, numbers=(("n", 1),)):
        value = (dimension, numbers, (("a", OPEN), ("b", OPEN), ("c", telling)))
        self.same(check_history(value), value)

    def test_tellings_of_names(self):
        for word in ("same", "not", "close", "inner", "rim", "hull"):
            self.right((word, "a"))
            for bent in ((word,), (word, "a", "b"), (word, ("a",)), (word, "z"), (word, "c"), (word, "n"), [word, "a"]):
                self.wrong(bent)
            for value in NO_NAMES:
                self.wrong((word, value))
        for word in ("less", "sum", "shrunk"):
            self.right((word, "a", "b"))
            self.right((word, "b", "b"))
            for bent in ((word,), (word, "a"), (word, "a", "b", "a"), (word, "z", "b"), (word, "a", "c"),
                         (word, "a", 1)):
                self.wrong(bent)
        for word in ("and", "or"):
            self.right((word, "a"))
            self.right((word,) + ("a", "b") * 6)
            for bent in ((word,), (word,) + ("a",) * 13, (word, "a", "z"), (word, "a", None), (word, ("a", "b")),
                         (word, "c")):
                self.wrong(bent)
        for value in NO_TUPLES:
            self.wrong(value)
            self.wrong((value, "a"))
        for word in ("Same", "xor", "", "move", "is", "some"):
            self.wrong((word, "a"))

    def test_tellings_of_entries(self):
        entry = (1, (("n", 2),))
        self.right(("moved", (entry, 10 ** 6), "a"))
        self.right(("moved", (-10 ** 6, (10 ** 6, (("n", -10 ** 6),))), "a"))
        self.right(("copies", 1, (entry, 0), "a"))
        self.right(("copies", 60, (0, 0), "a"))
        for bent in (("moved", (1,), "a"), ("moved", (1, 2, 3), "a"), ("moved", (1, 2)), ("moved", 1, "a"),
                     ("moved", [1, 2], "a"), ("moved", (1, 2), "c"), ("moved", (1, 2), "a", "b"),
                     ("copies", (1, 2), "a"),
                     ("copies", 0, (1, 2), "a"), ("copies", 61, (1, 2), "a"), ("copies", True, (1, 2), "a"),
                     ("copies", 2, (1,), "a"), ("copies", 2, 1, "a"), ("copies", None, (1, 2), "a"),
                     ("copies", 2, (1, 2), 1)):
            self.wrong(bent)
        numbers = tuple((letter, 0) for letter in "klmno")
        four = tuple((letter, 1) for letter in "klmn")
        self.right(("moved", (0, (0, four)), "a"), 2, numbers)
        bad = NO_INTEGERS[:1] + NO_INTEGERS[2:] + (
            10 ** 6 + 1, -10 ** 6 - 1, (), (1,), (1, ()), (1, (("n", 2),), 1), (1, ("n", 2)), (1, [("n", 2)]),
                                                   (1, (["n", 2],)),
            (None, (("n", 2),)), (True, (("n", 2),)), (10 ** 6 + 1, (("n", 2),)), (1, (("n", 0),)), (1, (("n", True),)),
            (1, (("n", 10 ** 6 + 1),)), (1, (("n",),)), (1, (("n", 2, 3),)), (1, (("N", 2),)), (1, ((1, 2),)),
            (1, (("n", 2), ("n", 3))), (1, (("o", 2), ("n", 3))), (1, four + (("o", 1),)), (1, (("q", 2),)), (1, None),
            (1, (("a", 2),)), (1, (None,)))
        for value in bad:
            self.wrong(("moved", (0, value), "a"), 2, numbers)
            self.wrong(("copies", 2, (value, 0), "a"), 2, numbers)
            self.wrong(("of", ("is", "lt", (1, 0, value))), 2, numbers)
            self.wrong(("of", ("some", ("or", ("is", "lt", (1, 0, 0, value))))), 2, numbers)

    def test_tellings_of_formulas(self):
        entry = (1, (("n", 2),))
        for formula in (("is", "lt", (1, 0, entry)), ("not", ("is", "eq", (1, 0, entry))), ("and",),
                        ("or", ("is", "ne", (0, 0, 10 ** 6))),
                        ("some", ("is", "lt", (1, 0, 1, entry))), ("every",
                                                                   ("some", ("is", "lt", (1, 0, 1, 1, entry)))),
                        ("back", ((1, 0, 0),), ("is", "lt", (1, entry)))):
            self.right(("of", formula))
        for formula in NO_TUPLES + ((), ("is", "lt", (entry, 0, 0)), ("is", "lt", (1, entry, 0)),
                                    ("is", "lt", (1, 0, 0, entry)),
                                    ("is", "lt", (1, entry)), ("is", "lt", entry), ("is", "xx", (1, 0, entry)), entry,
                                    ("back", ((1, 0, entry),), ("is", "lt", (1, 0))), ("is", "lt", (1, 0, 10 ** 6 + 1)),
                                    ("is", "lt", [1, 0, entry]), ("is", "lt", (1, 0, [1, (("n", 2),)])),
                                    ("is", "lt", (entry,)),
                                    ("not", ("is", "lt", (1, 0, entry)), 1), ("some", ("some", ("some", ("and",)))),
                                    ("is", (1, 0, entry)), ("is", "lt", (1, 0, entry), 1)):
            self.wrong(("of", formula))
        self.wrong(("of",))
        self.wrong(("of", ("and",), "a"))
        deep = ("is", "lt", (1, 0, entry))
        for _ in range(11):
            deep = ("not", deep)
        self.right(("of", deep))
        self.wrong(("of", ("not", deep)))
        self.right(("of", ("and",) + (("is", "lt", (1, 0, entry)),) * 199))
        self.wrong(("of", ("and",) + (("is", "lt", (1, 0, entry)),) * 200))

    def test_tellings_of_tables_and_directions(self):
        self.right(("back", ((1, 0, 10 ** 6), (0, 0, 0)), "a"))
        for table in (None, (), ((1, 0, 0),), ((1, 0, 0),) * 3, ((1, 0), (0, 1)), ((1, 0, 0), (0, 1, True)),
                      ((1, 0, 0), [0, 1, 0]),
                      ((1, 0, 0), (0, 1, 10 ** 6 + 1)), ((1, 0, 0), (0, 1, (1, (("n", 2),)))), [(1, 0, 0), (0, 1, 0)]):
            self.wrong(("back", table, "a"))
        self.wrong(("back", ((1, 0, 0), (0, 1, 0)), "c"))
        self.wrong(("back", ((1, 0, 0), (0, 1, 0))))
        for word in ("along", "always"):
            self.right((word, (10 ** 6, -1), "a"))
            self.right((word, (-1,), "a"), 1)
            for direction in (None, (), (1,), (1, 0, 0), (0, 0), (2, 0), (2, -4), (1, True), (1, 10 ** 6 + 1), [1, 0],
                              (1, (1, (("n", 2),)))):
                self.wrong((word, direction, "a"))
            self.wrong((word, (2,), "a"), 1)
            self.wrong((word, (1, 0), "c"))

    def test_values_bent_at_one_place(self):
        for place in range(len(PLANE[2])):
            for value in (None, "", 1, [], ("same", "zz"), ("zz",)):
                self.refused(NotHistory, check_history, changed(PLANE, (2, place, 1), value), place=(2, place))
            self.refused(NotHistory, check_history, changed(PLANE, (2, place, 0), "Q"), place=(2, place))
            fresh = changed(PLANE, (2, place, 0), "fresh")
            users = [number for number, (_, telling) in enumerate(PLANE[2]) if NAMES[place] in telling[1:]]
            if users:
                self.refused(NotHistory, check_history, fresh, place=(2, users[0]))
            else:
                self.assertIs(check_history(fresh), fresh)
        # Without a number, without a feature that is looked at, and with two features in the wrong sequence.
        self.refused(NotHistory, check_history, (2, PLANE[1][1:], PLANE[2]), place=(2, 0))
        self.refused(NotHistory, check_history, (2, PLANE[1], PLANE[2][1:]), place=(2, 1))
        self.refused(NotHistory, check_history, (2, PLANE[1], PLANE[2][::-1]), place=(2, 0))


class Told(SolidCase):

    def test_worked_by_hand(self):
        self.same(entry_worth(numbers=(("a", 3), ("b", -1)), entry=(5, (("a", 2), ("b", 4)))), 7)
        self.same(entry_worth((), -4), -4)
        self.same(entry_worth((("a", 10 ** 6),), (10 ** 6, (("a", -10 ** 6),))), 10 ** 6 - 10 ** 12)
        self.same(telling_with(history=PLANE, name="square"),
                  ("of", ("and", ("is", "ge", (1, 0, 0)), ("is", "le", (1, 0, -3)), ("is", "ge", (0, 1, 0)),
                          ("is", "le", (0, 1, -2)))))
        self.same(telling_with(PLANE, "far"), ("moved", (10, 6), "square"))
        self.same(telling_with(PLANE, "row"), ("copies", 3, (4, 0), "square"))
        self.same(telling_with(PLANE, "beam"), ("along", (1, 2), "square"))
        self.same(looks_of(history=PLANE, name="both"), ("square", "half", "a"))
        self.same(looks_of(PLANE, "square"), ())
        self.same(looks_of(PLANE, "sum"), ("edge",))
        self.same(all_looks(history=PLANE, name="whole"), ("square", "half", "a", "both"))
        self.same(all_looks(PLANE, "last"), ("square", "row", "hull", "not"))
        self.same(users_of(history=PLANE, name="half"), ("a", "both", "less"))
        self.same(users_of(PLANE, "last"), ())
        self.same(all_users(history=PLANE, name="half"), ("a", "both", "less", "whole", "shell"))
        self.same(names_of(history=PLANE, name="square"), ("a", "b"))
        self.same(names_of(PLANE, "hull"), ())
        self.same(all_names(history=PLANE, name="hull"), ("a", "b"))
        self.same(all_names(PLANE, "half"), ("b",))
        self.same(all_names((1, (), (("a", OPEN),)), "a"), ())

    def test_against_one_another(self):
        for dimension in (1, 2, 3):
            for value in some_histories(dimension, 20, 8, WORDS, 452):
                names = [name for name, _ in value[2]]
                for name, telling in value[2]:
                    looks = set(looks_of(value, name))
                    self.assertEqual({own for own in names if own in telling[1:]}, looks)
                    everything = set(looks)
                    for look in looks:
                        everything |= set(all_looks(value, look))
                    self.same(all_looks(value, name), tuple(own for own in names if own in everything))
                    self.same(users_of(value, name), tuple(own for own in names if name in looks_of(value, own)))
                    self.same(all_users(value, name), tuple(own for own in names if name in all_looks(value, own)))
                    used = set(names_of(value, name))
                    self.assertEqual(list(names_of(value, name)), sorted(used))
                    for own in everything:
                        used |= set(names_of(value, own))
                    self.same(all_names(value, name), tuple(sorted(used)))
                    for number, _ in value[1]:
                        other = (dimension, tuple((own, worth + (own == number)) for own, worth in value[1]), value[2])
                        if number not in names_of(value, name):
                            self.same(telling_with(other, name), telling_with(value, name))

    def test_names_that_are_none(self):
        calls = (telling_with, looks_of, all_looks, users_of, all_users, names_of, all_names, set_of, swept, exchanged,
                 lambda value, name: renamed(value, name, "Q"))
        for call in calls:
            for name in NO_NAMES + ("zz", "b", "unused", ("square",), 0):
                self.refused(NotName, call, PLANE, name, name=name)


class Outcomes(SolidCase):

    def test_each_operation(self):
        forms = dict(zip(NAMES, build(history=PLANE)))
        self.assertEqual({outcome[0] for outcome in forms.values()}, {"form"})
        forms = {name: outcome[1] for name, outcome in forms.items()}
        square = form_of(2, ("and", ("is", "ge", (1, 0, 0)), ("is", "le", (1, 0, -3)), ("is", "ge", (0, 1, 0)),
                             ("is", "le", (0, 1, -2))))
        half = form_of(2, ("is", "ge", (1, 1, -2)))
        first, second = lined(2, (1, 2))
        wanted = {
            "square": square, "half": half, "a": all_of(2, (square, half)), "both": any_of(2, (half, square)),
            "less": less(square, half), "far": shifted(square, (10, 6, 1)),
            "row": any_of(2, (square, shifted(square, (4, 0, 1)), shifted(square, (8, 0, 1)))),
            "turned": drawn_back(square, ((0, 1, 0), (-1, 0, 2))), "edge": rim(square), "core": inner(square),
            "shell": closed(less(square, half)), "sum": sum_of(rim(square), rim(square)),
                  "thin": shrunk(square, rim(square)),
            "beam": drawn_back(scaled(shadow(drawn_back(square, first)), (1, 1)), second),
            "whole": EMPTY[2],
        }
        wanted["hull"] = hull_of(wanted["row"])
        wanted["not"] = wanted["last"] = rest(wanted["hull"])
        self.assertEqual(sorted(wanted), sorted(NAMES))
        for name in NAMES:
            self.same(forms[name], wanted[name])
            self.same(set_of(history=PLANE, name=name), wanted[name])

    def test_by_points(self):
        random = Random(453)
        for dimension, many in ((1, 30), (2, 20), (3, 6)):
            for value in some_histories(dimension, many, 5, QUICK, 454):
                outcomes = dict(zip([name for name, _ in value[2]], build(value)))
                for name, _ in value[2]:
                    if outcomes[name][0] == "form":
                        self.same(set_of(value, name), outcomes[name][1])
                        telling = telling_with(value, name)
                        looks = [outcomes[look][1] for look in telling[1:] if isinstance(look, str)]
                        for point in small_points(dimension, 6, random.random()):
                            wanted = self.belongs(dimension, telling, looks, point)
                            if wanted is not None:
                                self.assertIs(in_form(outcomes[name][1], numbers_at(point)), wanted)

    def belongs(self, dimension, telling, looks, point):
        """Whether a point belongs to what a telling tells; None of words that this does not tell."""
        here = numbers_at(point)
        inside = [in_form(form, here) for form in looks]
        word = telling[0]
        if word in ("not", "same"):
            return inside[0] == (word == "same")
        if word in ("and", "or"):
            return all(inside) if word == "and" else any(inside)
        if word == "less":
            return inside[0] and not inside[1]
        if word == "moved":
            return in_form(looks[0], [x - step for x, step in zip(here, telling[1])])
        if word == "copies":
            return any(in_form(looks[0], [x - turn * step for x,
                                          step in zip(here, telling[2])]) for turn in range(telling[1]))
        if word == "back":
            return in_form(looks[0], [sum(a * x for a, x in zip(row, here)) + row[-1] for row in telling[1]])
        if word in ("along", "always"):
            stretches = line_stretches(looks[0], point, telling[1])
            return stretches == ((None, False, None, False),) if word == "always" else stretches != ()
        return None

    def test_too_great(self):
        dots = ("of", ("or",) + tuple(("is", "eq", (1, -k)) for k in range(31)))
        value = history(("a", dots), ("b", ("moved", (100,), "a")), ("c", ("or", "b", "a")), ("d", ("not", "c")),
                        ("e", ("same", "a")),
                        ("f", ("and", "e", "d")), ("g", ("copies", 2, (200,), "a")), ("h", ("copies", 60, (0,), "a")))
        outcomes = build(value)
        self.assertEqual([outcome[0] for outcome in outcomes], ["form", "form", "great", "great", "form", "great",
                                                                "great", "form"])
        for outcome in (outcomes[2], outcomes[3], outcomes[5], outcomes[6]):
            self.same(outcome, ("great", 60))
        for name in "cdfg":
            self.refused(TooGreat, set_of, value, name, most=60)
        self.same(set_of(value, "h"), set_of(value, "a"))
        # Of several that are too great the first one in the telling.
        wide = ("of", ("some", ("some", ("some", ("and",) + tuple(("is", "lt",
                                                                   (k, 1, k * k, -1, k ** 3)) for k in range(30))))))
        value = history(("a", dots), ("b", ("copies", 2, (99,), "a")), ("c", wide), ("d", ("and", "c", "b")),
                        ("e", ("and", "b", "c")))
        self.same(build(value)[1:], (("great", 60), ("great", 200), ("great", 200), ("great", 60)))
        self.refused(TooGreat, set_of, value, "c", most=200)
        self.refused(TooGreat, set_of, value, "d", most=200)

    def test_integers_of_any_size(self):
        value = history(("a", ("of", ("is", "lt", (1, (10 ** 6, (("n", -10 ** 6),)))))),
                        ("b", ("moved", ((0, (("n", 10 ** 6),)),), "a")),
                        numbers=(("n", 10 ** 6),))
        check_history(value)
        self.same(set_of(value, "a"), (1, ((1, 10 ** 6 - 10 ** 12),), ((-1,),)))
        self.same(set_of(value, "b"), (1, ((1, 10 ** 6 - 2 * 10 ** 12),), ((-1,),)))
        self.refused(NotFormula, form_of, 1, telling_with(value, "a")[1], path=(2, 1))

    def test_in_the_line(self):
        for form, along, always in ((("or",), False, False), (("and",), True, True), (lone(3), True, False),
                                    (box(1), True, False)):
            value = history(("a", ("of", form)), ("b", ("along", (-1,), "a")), ("c", ("always", (1,), "a")))
            self.same(set_of(value, "b"), (1, (), ((),) if along else ()))
            self.same(set_of(value, "c"), (1, (), ((),) if always else ()))

    def test_full_shadows(self):
        value = (2, (), (("a", ("of", ("is", "ge", (2, -1, 0)))), ("b", ("always", (1, 2), "a")),
                         ("c", ("always", (1, 1), "a"))))
        self.same(set_of(value, "b"), set_of(value, "a"))
        self.same(set_of(value, "c"), EMPTY[2])
        first, second = lined(2, (1, 2))
        self.same(drawn_back(scaled(full_shadow(drawn_back(set_of(value, "a"), first)), (1, 1)), second),
                  set_of(value, "b"))


class Changes(SolidCase):

    def test_swept(self):
        value = history(("d", OPEN), ("c", OPEN), ("x", ("same", "d")), ("b", ("and", "c", "d")),
                        ("a", ("less", "x", "b")),
                        ("e", ("not", "a")), numbers=(("m", 1), ("n", 2)))
        self.same(swept(history=value, name="e"), (1, (), (("c", OPEN), ("d", OPEN), ("b", ("and", "c", "d")),
                                                           ("x", ("same", "d")),
                                                           ("a", ("less", "x", "b")), ("e", ("not", "a")))))
        self.same(swept(value, "x"), (1, (), (("d", OPEN), ("x", ("same", "d")))))
        self.same(swept(PLANE, "half"), (2, (("b", 0),), PLANE[2][1:2]))
        self.assertEqual([name for name, _ in swept(PLANE, "last")[2]], ["square", "row", "hull", "not", "last"])
        self.same(swept(PLANE, "whole")[1], PLANE[1][:2])

    def test_exchanged(self):
        value = history(("a", OPEN), ("b", ("not", "a")), ("c", ("same", "a")))
        self.same(exchanged(history=value, name="c"), history(("a", OPEN), ("c", ("same", "a")), ("b", ("not", "a"))))
        self.refused(Unlike, exchanged, value, "a")
        self.refused(Unlike, exchanged, value, "b")
        self.refused(NotName, exchanged, value, "d", name="d")

    def test_renamed(self):
        value = history(("a", OPEN), ("b", ("less", "a", "a")), ("c", ("moved", ((0, (("a", 1),)),), "a")),
                        numbers=(("a", 4),))
        self.same(renamed(history=value, name="a", fresh="z"),
                  history(("z", OPEN), ("b", ("less", "z", "z")), ("c", ("moved", ((0, (("a", 1),)),), "z")),
                          numbers=(("a", 4),)))
        self.same(renamed(value, "c", "less"), history(*value[2][:2], ("less", value[2][2][1]), numbers=(("a", 4),)))
        for fresh in NO_NAMES + ("a", "b", "c", 5, ("z",)):
            self.refused(NotName, renamed, value, "b", fresh, name=fresh)
        self.refused(NotName, renamed, value, "q", "b", name="q")
        self.same(check_history(renamed(value, "b", "abcdefgh"))[2][1][0], "abcdefgh")
        # A feature whose name is the word of its users' tellings.
        self.same(renamed(history(("not", OPEN), ("b", ("not", "not"))), "not", "x"),
                  history(("x", OPEN), ("b", ("not", "x"))))

    def test_facts(self):
        for dimension, many in ((1, 25), (2, 10)):
            for value in some_histories(dimension, many, 6, QUICK, 456):
                outcomes = dict(zip([name for name, _ in value[2]], build(value)))
                for name, _ in value[2]:
                    clean = swept(value, name)
                    self.assertIs(check_history(clean), clean)
                    self.assertEqual(sorted(own for own, _ in clean[2]), sorted(all_looks(value, name) + (name,)))
                    self.same(tuple(own for own, _ in clean[1]), all_names(value, name))
                    for own, outcome in zip([own for own, _ in clean[2]], build(clean)):
                        self.same(outcome, outcomes[own])
                    self.least_order(clean)
                    fresh = renamed(value, name, "fresh")
                    self.assertIs(check_history(fresh), fresh)
                    self.same(build(fresh), build(value))
                    try:
                        turned = exchanged(value, name)
                    except Unlike:
                        continue
                    self.assertIs(check_history(turned), turned)
                    for own, outcome in zip([own for own, _ in turned[2]], build(turned)):
                        self.same(outcome, outcomes[own])
                        self.same(swept(turned, own), swept(value, own))

    def least_order(self, value):
        placed = []
        names = [name for name, _ in value[2]]
        for name in names:
            ready = [own for own in names if own not in placed and all(look in placed for look in looks_of(value, own))]
            self.assertEqual(name, min(ready))
            placed.append(name)


if __name__ == "__main__":
    unittest.main()
