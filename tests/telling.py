"""Histories for tests: one with each word, and small ones made by chance."""

from random import Random

from formed import unit
from making import small_formula

LETTERS = "abcdefgh"
ONES = ("same", "not", "close", "inner", "rim", "hull")
TWOS = ("less", "sum", "shrunk")

SQUARE_OF_A = ("of", ("and", ("is", "ge", (1, 0, 0)), ("is", "le", (1, 0, (0, (("a", -1),)))),
                      ("is", "ge", (0, 1, 0)), ("is", "le", (0, 1, (1, (("a", -1), ("b", 2)))))))
# In the plane, with the numbers a = 3 and b = 0: each word once or more.
PLANE = (2, (("a", 3), ("b", 0), ("unused", -7)), (
    ("square", SQUARE_OF_A),
    ("half", ("of", ("not", ("is", "lt", (1, 1, (-2, (("b", 5),))))))),
    ("a", ("and", "square", "half")),
    ("both", ("or", "half", "square", "a")),
    ("less", ("less", "square", "half")),
    ("far", ("moved", (10, (0, (("a", 2),))), "square")),
    ("row", ("copies", 3, ((1, (("a", 1),)), 0), "square")),
    ("turned", ("back", ((0, 1, 0), (-1, 0, 2)), "square")),
    ("beam", ("along", (1, 2), "square")),
    ("whole", ("always", (1, 0), "both")),
    ("edge", ("rim", "square")),
    ("core", ("inner", "square")),
    ("shell", ("close", "less")),
    ("sum", ("sum", "edge", "edge")),
    ("thin", ("shrunk", "square", "edge")),
    ("hull", ("hull", "row")),
    ("not", ("not", "hull")),
    ("last", ("same", "not")),
))
NAMES = [name for name, _ in PLANE[2]]


def some_entry(random, numbers):
    if not numbers or random.random() < 0.6:
        return random.randint(-3, 3)
    names = sorted(random.sample(numbers, random.randint(1, min(2, len(numbers)))))
    return (random.randint(-3, 3), tuple((name, random.choice((-2, -1, 1, 2))) for name in names))


def with_entries(random, numbers, formula):
    """A formula with entries for some last numbers of rows."""
    if formula[0] == "is":
        row = formula[2]
        return ("is", formula[1], row[:-1] + (some_entry(random, numbers) if random.random() < 0.5 else row[-1],))
    if formula[0] == "back":
        return formula[:2] + (with_entries(random, numbers, formula[2]),)
    return formula[:1] + tuple(with_entries(random, numbers, part) for part in formula[1:])


def some_telling(random, dimension, numbers, ahead, words):
    """A telling that looks at features ahead."""
    word = random.choice(words) if ahead else "of"
    if word == "of":
        formula = small_formula(random, dimension, 3, ("and", "or", "not"))
        return ("of", with_entries(random, numbers, formula))
    one, other = random.choice(ahead), random.choice(ahead)
    if word in ONES:
        return (word, one)
    if word in ("and", "or"):
        return (word,) + tuple(random.choice(ahead) for _ in range(random.randint(1, 3)))
    if word in TWOS:
        return (word, one, other)
    entries = tuple(some_entry(random, numbers) for _ in range(dimension))
    if word == "moved":
        return (word, entries, one)
    if word == "copies":
        return (word, random.randint(1, 3), entries, one)
    if word == "back":
        return (word, tuple(unit(dimension, place, random.randint(-1, 1)) for place in range(dimension))[::-1], one)
    direction = random.choice([tuple(int(place == own) for own in range(dimension)) for place in range(dimension)]
                              + [(1,) * dimension, (-1,) * dimension])
    return (word, direction, one)


def some_history(random, dimension, many, words):
    """A history of so many features of some of the words."""
    numbers = [LETTERS[:k + 1] for k in range(random.randint(0, 3))]
    features = []
    for number in range(many):
        ahead = [name for name, _ in features]
        name = random.choice([letter for letter in "zyxwvutsrq" if letter not in ahead])
        features.append((name, some_telling(random, dimension, numbers, ahead, words)))
        assert number < 10
    return (dimension, tuple((name, random.randint(-3, 3)) for name in numbers), tuple(features))


def some_histories(dimension, how_many, many, words, seed):
    random = Random(seed)
    return [some_history(random, dimension, random.randint(1, many), words) for _ in range(how_many)]


WORDS = ("of", "of", "same", "not", "and", "or", "less", "close", "inner", "rim", "sum", "shrunk", "hull", "moved",
         "copies",
         "back", "along", "always")
QUICK = ("of", "of", "same", "not", "and", "or", "less", "close", "inner", "rim", "moved", "copies", "back", "along",
         "always")
LED = ("of", "of", "same", "not", "and", "or", "less", "moved", "copies", "back", "along", "always")
