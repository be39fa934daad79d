"""Promises [81] and [82]: houses, their edits, and what these make."""

import inspect
import unittest
from random import Random

from helping import NO_INTEGERS, NO_TUPLES, SolidCase
from onesolid.errors import Empty, NotHistory, NotName, NotNumber, SolidError, TooGreat, Unlike
from onesolid.histories import build, check_history, exchanged, looks_of, renamed, set_of, telling_with
from onesolid.houses import House
from telling import PLANE, QUICK, some_histories, some_telling
from test_histories import NO_NAMES, OPEN

DOTS = ("of", ("or",) + tuple(("is", "eq", (1, -k)) for k in range(31)))
LINE = (1, (("m", 2), ("n", 5)), (
    ("a", ("of", ("is", "ge", (1, (0, (("n", -1),)))))),
    ("b", ("not", "a")),
    ("c", ("moved", ((1, (("n", 1),)),), "b")),
    ("d", ("of", ("is", "ge", (1, -5)))),
))


def keys_of(history):
    """By the names of features their keys: the telling with integers without names, and the outcomes looked at."""
    outcomes = dict(zip([name for name, _ in history[2]], build(history)))
    found = {}
    for name, _ in history[2]:
        telling = telling_with(history, name)
        looks = [look for look in telling[1:] if telling[0] != "of" and isinstance(look, str)]
        own = telling if not looks else telling[:len(telling) - len(looks)]
        found[name] = (own, tuple(outcomes[look] for look in looks))
    return found


class Making(SolidCase):

    def test_worked_by_hand(self):
        house = House(history=LINE)
        self.same(house.history, LINE)
        self.same(house.made, ("a", "b", "c"))
        self.same(house.makes, 3)
        self.same(house.acts, 0)
        self.assertEqual(len(house), 4)
        self.same(house.outcome(name="b"), ("form", (1, ((1, -5),), ((-1,),))))
        self.same(house.form(name="c"), (1, ((1, -11),), ((-1,),)))
        # Other integers make a and what looks at it, back again nothing is made.
        self.same(house.set_number(name="n", integer=6), ("a", "b", "c"))
        self.same(house.makes, 6)
        self.same(house.set_number("n", 5), ())
        self.same(house.set_number("m", 7), ())
        self.same(house.acts, 3)
        # A telling of the same set: what looks at it is not made again.
        self.same(house.put_telling(name="a", telling=("of", ("is", "ge", (2, -10)))), ("a",))
        self.same(house.makes, 7)
        self.same(house.number_less(name="m"), ())
        self.same(house.number_more(name="z", integer=3), ())
        self.same(house.history[1], (("n", 5), ("z", 3)))
        self.same(house.feature_more("e", ("same", "d")), ("e",))
        self.same(house.feature_more(name="f", telling=("not", "d"), at=4), ())
        self.same([name for name, _ in house.history[2]], ["a", "b", "c", "d", "f", "e"])
        self.same(house.exchange(name="e"), ())
        self.same([name for name, _ in house.history[2]], ["a", "b", "c", "d", "e", "f"])
        self.same(house.rename(name="d", fresh="dd"), ())
        self.same(house.feature_less(name="e"), ())
        self.same(house.made, ())
        self.same(house.acts, 11)

    def test_keys_with_outcomes_that_are_too_great(self):
        house = House((1, (), (("a", DOTS), ("b", ("copies", 2, (99,), "a")), ("c", ("not", "b")))))
        self.same(house.made, ("a", "b", "c"))
        self.same(house.outcome("c"), ("great", 60))
        self.refused(TooGreat, house.form, "c", most=60)
        self.refused(TooGreat, house.form, "b", most=60)
        self.same(house.feature_more("d", ("not", "b")), ())
        self.same(house.outcome("d"), ("great", 60))

    def test_several_with_one_key(self):
        house = House((1, (), (("b", OPEN), ("a", OPEN), ("c", ("not", "a")), ("d", ("not", "b")), ("e", ("and", "a")),
                               ("f", ("and", "a", "b")), ("g", ("or", "a")))))
        self.same(house.made, ("b", "c", "e", "f", "g"))
        self.same(house.makes, 5)

    def test_what_is_no_history(self):
        self.refused(NotHistory, House, None, place=())
        self.refused(NotHistory, House, (1, (), ()), place=(2,))
        self.refused(NotHistory, House, (2, (), PLANE[2]), place=(2, 0))

    def test_names(self):
        house = House(PLANE)
        for call in (house.outcome, house.form):
            for name in NO_NAMES + ("zz", "b"):
                self.refused(NotName, call, name, name=name)

    def test_defined_in_the_class_itself(self):
        wanted = {"set_number": ["name", "integer"], "number_more": ["name", "integer"], "number_less": ["name"],
                  "put_telling": ["name", "telling"], "feature_more": ["name", "telling", "at"],
                  "feature_less": ["name"],
                  "exchange": ["name"], "rename": ["name", "fresh"], "undo": [], "redo": [], "copy": [],
                  "outcome": ["name"], "form": ["name"], "__len__": [], "__init__": ["history"]}
        for name, parameters in wanted.items():
            found = inspect.signature(vars(House)[name]).parameters
            self.assertEqual(list(found)[1:], parameters)
        at = inspect.signature(House.feature_more).parameters["at"]
        self.assertEqual((at.kind, at.default), (inspect.Parameter.KEYWORD_ONLY, None))
        for name in ("history", "made", "makes", "acts"):
            self.assertIsInstance(vars(House)[name], property)
        self.assertIn("__eq__", vars(House))
        self.assertEqual(House.__module__, "onesolid.houses")


class Steps(SolidCase):

    def test_undo_and_redo(self):
        house = House(LINE)
        self.refused(Empty, house.undo)
        self.refused(Empty, house.redo)
        house.set_number("n", 6)
        second = house.history
        house.rename("a", "q")
        third = house.history
        self.same(house.undo(), ())
        self.same(house.history, second)
        self.same(house.acts, 1)
        self.same(house.made, ())
        self.same(house.undo(), ())
        self.same(house.history, LINE)
        self.refused(Empty, house.undo)
        self.same(house.redo(), ())
        self.same(house.redo(), ())
        self.same(house.history, third)
        self.same(house.acts, 2)
        self.refused(Empty, house.redo)
        house.undo()
        # An edit forgets what could be redone, a refused one does not.
        self.refused(NotName, house.set_number, "zz", 3)
        self.same(house.redo(), ())
        house.undo()
        self.same(house.set_number("n", 9), ("a", "b", "c"))
        self.refused(Empty, house.redo)
        self.same(house.acts, 2)
        self.same(house.undo(), ())
        self.same(house.history, second)

    def test_copies(self):
        house = House(LINE)
        house.set_number("n", 6)
        house.rename("a", "q")
        house.undo()
        twin = house.copy()
        self.assertIsInstance(twin, House)
        self.assertTrue(twin == house)
        self.same((twin.history, twin.made, twin.makes, twin.acts), (house.history, house.made, house.makes,
                                                                     house.acts))
        self.same(twin.set_number("n", 8), ("a", "b", "c"))
        self.assertFalse(twin == house)
        self.same((house.history, house.makes, house.acts), (twin.history[:1] + (LINE[1][:1] + (("n", 6),),
                                                                                 ) + LINE[2:], 6, 1))
        self.same(house.set_number("n", 7), ("a", "b", "c"))
        self.same(twin.outcome("a"), ("form", (1, ((1, -8),), ((0,), (1,)))))
        self.same(house.outcome("a"), ("form", (1, ((1, -7),), ((0,), (1,)))))
        # What can be redone, and what was made, is copied, too.
        house.undo()
        twin = house.copy()
        self.same(twin.redo(), ())
        self.same(twin.history[1], (("m", 2), ("n", 7)))
        self.refused(Empty, twin.redo)
        house.redo()
        self.same(House(LINE).copy().made, ("a", "b", "c"))

    def test_equal_ones(self):
        house, other = House(LINE), House(LINE)
        self.assertTrue(house == other)
        self.assertFalse(house != other)
        for value in (None, LINE, 1, "a"):
            self.assertFalse(house == value)
        house.set_number("n", 6)
        house.set_number("n", 5)
        self.assertFalse(house == other)
        house.undo()
        house.undo()
        # Alike but for what was made.
        self.assertEqual((house.history, house.acts), (other.history, other.acts))
        self.assertFalse(house == other)
        other.set_number("n", 6)
        other.undo()
        self.assertTrue(house == other)
        # Unlike in the history alone, in the acts alone.
        other.set_number("m", 3)
        house.set_number("m", 4)
        self.assertEqual((house.acts, house.makes), (other.acts, other.makes))
        self.assertFalse(house == other)
        house.set_number("m", 3)
        self.assertEqual((house.history, house.makes), (other.history, other.makes))
        self.assertFalse(house == other)


class Edits(SolidCase):

    def unchanged(self, house, error, call, *args, **fields):
        before = (house.history, house.made, house.makes, house.acts)
        self.refused(error, call, *args, **fields)
        self.same((house.history, house.made, house.makes, house.acts), before)

    def test_names_come_first(self):
        house = House(PLANE)
        for name in NO_NAMES + ("zz", 3, ("a",)):
            for call in (lambda own: house.set_number(own, None), house.number_less,
                         lambda own: house.put_telling(own, None),
                         house.feature_less, house.exchange, lambda own: house.rename(own, None)):
                self.unchanged(house, NotName, call, name, name=name)
        # A number's name is none of a feature, and the other way round.
        self.unchanged(house, NotName, house.set_number, "square", None, name="square")
        self.unchanged(house, NotName, house.number_less, "square", name="square")
        for call in (house.feature_less, house.exchange):
            self.unchanged(house, NotName, call, "b", name="b")
        for name in NO_NAMES + (3, ("a",)):
            self.unchanged(house, NotName, house.number_more, name, None, name=name)
            self.unchanged(house, NotName, lambda own: house.feature_more(own, None, at="x"), name, name=name)
        self.unchanged(house, NotName, house.number_more, "a", None, name="a")
        self.unchanged(house, NotName, lambda own: house.feature_more(own, None, at="x"), "square", name="square")
        # But they may be shared.
        house.number_more("square", 1)
        house.feature_more("b", OPEN)

    def test_integers(self):
        house = House(PLANE)
        for value in NO_INTEGERS + NO_TUPLES[:1] + (10 ** 6 + 1, -10 ** 6 - 1):
            self.unchanged(house, NotNumber, house.set_number, "a", value, value=value)
            self.unchanged(house, NotNumber, house.number_more, "q", value, value=value)
        for value in (10 ** 6, -10 ** 6, 0):
            house.set_number("unused", value)
            self.same(house.history[1][2], ("unused", value))
        house.number_more("aa", -10 ** 6)
        self.same([name for name, _ in house.history[1]], ["a", "aa", "b", "unused"])

    def test_places(self):
        house = House(LINE)
        for value in NO_INTEGERS[:2] + NO_INTEGERS[3:] + (-1, 5, 10 ** 20):
            self.unchanged(house, NotNumber, lambda at: house.feature_more("q", None, at=at), value, value=value)
        for at, wanted in ((0, "qabcd"), (2, "abqcd"), (4, "abcdq"), (None, "abcdq")):
            house.feature_more("q", OPEN, at=at)
            self.same("".join(name for name, _ in house.history[2]), wanted)
            house.undo()
        self.unchanged(house, NotHistory, lambda telling: house.feature_more("q", telling, at=1), ("not", "b"),
                       place=(2, 1))
        self.unchanged(house, NotHistory, house.feature_more, "q", ("not", "q"), place=(2, 4))
        self.unchanged(house, NotHistory, house.feature_more, "q", None, place=(2, 4))

    def test_unlike(self):
        house = House(LINE)
        self.unchanged(house, Unlike, house.number_less, "n")
        self.unchanged(house, Unlike, house.feature_less, "a")
        self.unchanged(house, Unlike, house.feature_less, "b")
        self.unchanged(house, Unlike, house.exchange, "a")
        self.unchanged(house, Unlike, house.exchange, "b")
        self.same(house.exchange("d"), ())
        self.same(house.exchange("d"), ())
        self.same(house.feature_less("c"), ())
        self.same(house.feature_less("b"), ())
        self.same([name for name, _ in house.history[2]], ["a", "d"])
        for name in ("c", "d"):
            house = House(LINE)
            house.feature_less(name)
            self.same([own for own, _ in house.history[2]], [own for own in "abcd" if own != name])

    def test_fresh_names(self):
        house = House(LINE)
        for fresh in NO_NAMES + ("a", "b", "d", 3):
            self.unchanged(house, NotName, house.rename, "a", fresh, name=fresh)
        self.same(house.rename("a", "n"), ())
        self.same(house.history, renamed(LINE, "a", "n"))

    def test_too_many(self):
        numbers = tuple((letter, 0) for letter in "abcdefghijklmnopqrst")
        house = House((1, numbers, (("a", OPEN),)))
        self.unchanged(house, TooGreat, house.number_more, "zz", 1, most=20)
        self.unchanged(house, NotNumber, house.number_more, "zz", None, value=None)
        self.unchanged(house, NotName, house.number_more, "a", None, name="a")
        house.number_less("b")
        house.number_more("zz", 1)
        features = tuple((a + b, OPEN) for a in "abcde" for b in "abcdefgh")
        house = House((1, (), features))
        self.assertEqual(len(house), 40)
        self.unchanged(house, TooGreat, house.feature_more, "zz", None, most=40)
        self.unchanged(house, NotNumber, lambda at: house.feature_more("zz", None, at=at), 41, value=41)
        house.feature_less("aa")
        house.feature_more("zz", OPEN)
        # The last one of all is wanted.
        house = House((1, (), features[:1]))
        self.unchanged(house, NotHistory, house.feature_less, "aa", place=(2,))

    def test_tellings(self):
        house = House(LINE)
        for telling in NO_TUPLES + (("not", "c"), ("not", "b"), ("not", "d"),
                                    ("of", ("is", "lt", (1, (0, (("z", 1),))))), ("not",)):
            self.unchanged(house, NotHistory, house.put_telling, "b", telling, place=(2, 1))
        self.same(house.put_telling("b", ("moved", ((0, (("m", 3),)),), "a")), ("b", "c"))
        self.same(house.history[2][1], ("b", ("moved", ((0, (("m", 3),)),), "a")))

    def test_any_acts(self):
        random = Random(470)
        done = 0
        for dimension, how_many in ((1, 12), (2, 5)):
            for history in some_histories(dimension, how_many, 5, QUICK, 471):
                house = House(history)
                keys = set(keys_of(history).values())
                self.same(house.makes, len(keys))
                behind, ahead = [], []
                for _ in range(12):
                    before = house.history
                    word = random.choice(("number", "number", "more", "less", "put", "turn", "name", "undo", "redo",
                                          "copy"))
                    try:
                        made = self.act(random, house, word)
                    except SolidError:
                        self.same(house.history, before)
                        continue
                    done += 1
                    if word == "copy":
                        continue
                    if word == "undo":
                        ahead.append(before)
                        self.same(house.history, behind.pop())
                    elif word == "redo":
                        behind.append(before)
                        self.same(house.history, ahead.pop())
                    else:
                        behind.append(before)
                        ahead = []
                    self.same(house.made, made)
                    self.same(house.acts, len(behind))
                    self.judge(house, made, keys)
        self.assertGreater(done, 60)

    def judge(self, house, made, keys):
        check_history(house.history)
        self.assertEqual(len(house), len(house.history[2]))
        wanted = []
        for name, key in keys_of(house.history).items():
            if key not in keys:
                keys.add(key)
                wanted.append(name)
        self.same(made, tuple(wanted))
        self.same(house.makes, len(keys))
        for (name, _), outcome in zip(house.history[2], build(house.history)):
            self.same(house.outcome(name), outcome)
            if outcome[0] == "form":
                self.same(house.form(name), set_of(house.history, name))

    def act(self, random, house, word):
        dimension, numbers, features = house.history
        names = [name for name, _ in features]
        name = random.choice(names)
        known = [own for own, _ in numbers]
        if word == "number":
            return house.set_number(random.choice(known + ["q"]), random.randint(-3, 3))
        if word == "more":
            return house.feature_more(random.choice("klmno"), some_telling(random, dimension, known, names, QUICK))
        if word == "less":
            return house.feature_less(name)
        if word == "put":
            ahead = names[:names.index(name)]
            return house.put_telling(name, some_telling(random, dimension, known, ahead, QUICK))
        if word == "turn":
            wanted = exchanged(house.history, name)
            made = house.exchange(name)
            self.same(house.history, wanted)
            return made
        if word == "name":
            return house.rename(name, random.choice("klmno"))
        if word == "copy":
            twin = house.copy()
            self.assertTrue(twin == house)
            return twin.number_more("zz", 5)
        return house.undo() if word == "undo" else house.redo()

    def test_looks_stay(self):
        house = House(PLANE)
        house.rename("square", "x")
        self.same(looks_of(house.history, "a"), ("x", "half"))


if __name__ == "__main__":
    unittest.main()
