"""Formulas for tests: many small ones, and ones with just so many looked-at planes."""

from random import Random

SIGN_WORDS = ("lt", "le", "eq", "ne", "ge", "gt")


def small_row(random, dimension):
    return tuple(random.choice((-3, -2, -1, -1, 0, 0, 1, 1, 2, 3)) for _ in range(dimension + 1))


def small_formula(random, dimension, depth, words):
    """A formula at most so deep of some of the words, "is" always among them."""
    word = random.choice(words) if depth > 1 else "is"
    if word == "is" or (word in ("some", "every") and dimension == 4):
        return ("is", random.choice(SIGN_WORDS), small_row(random, dimension))
    if word == "not":
        return ("not", small_formula(random, dimension, depth - 1, words))
    if word in ("some", "every"):
        return (word, small_formula(random, dimension + 1, depth - 1, words))
    if word == "back":
        table = tuple(small_row(random, dimension) for _ in range(random.randint(1, 4)))
        return ("back", table, small_formula(random, len(table), depth - 1, words))
    parts = [small_formula(random, dimension, depth - 1, words) for _ in range(random.randint(0, 3))]
    return (word,) + tuple(parts)


def small_formulas(dimension, many, depth, words, seed):
    random = Random(seed)
    return [small_formula(random, dimension, depth, words) for _ in range(many)]


def small_points(dimension, many, seed):
    """Points with small coordinates, in lowest terms."""
    random = Random(seed)
    found = []
    for _ in range(many):
        weight = random.choice((1, 1, 2, 3))
        numbers = [random.randint(-4, 4) for _ in range(dimension)]
        if weight > 1 and all(number % weight == 0 for number in numbers):
            weight = 1
        found.append(tuple(numbers) + (weight,))
    return found


def crossing_lines(many):
    """"and" of such lines of the plane, at most 20, that no two pairs cross above one place."""
    return ("and",) + tuple(("is", "lt", (k, -1, 2 ** k - 1)) for k in range(many))


def with_looked_at(many):
    """A formula of dimension 1 with just so many looked-at planes, from 190 to 209, and 33 words or more."""
    inside = crossing_lines(20) + tuple(("is", "gt", (1, 0, 900 + k)) for k in range(many - 190))
    return ("some", inside)
