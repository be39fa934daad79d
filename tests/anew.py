"""What holds of systems, computed in another way than the package does: one coordinate after the other taken out."""

from fractions import Fraction
from math import gcd, lcm
from random import Random


def is_so(word, number):
    return {"gt": number > 0, "ge": number >= 0, "eq": number == 0}[word]


def opposite(row):
    return tuple(-number for number in row)


def loose(pairs):
    return [("ge" if word == "gt" else word, row) for word, row in pairs]


def whole(numbers):
    """The integers without a common divisor that are a positive multiple of some numbers."""
    numbers = [Fraction(number) for number in numbers]
    scale = lcm(*[number.denominator for number in numbers])
    numbers = [int(number * scale) for number in numbers]
    divisor = gcd(*numbers) or 1
    return tuple(number // divisor for number in numbers)


def has_points(pairs, dimension):
    """Whether some pairs hold somewhere."""
    if dimension == 0:
        return all(is_so(word, row[0]) for word, row in pairs)
    rows = set()
    for word, row in pairs:
        rows.add(("gt" if word == "gt" else "ge", whole(row)))
        if word == "eq":
            rows.add(("ge", whole(opposite(row))))
    last = dimension - 1
    made = {(word, row[:last] + row[dimension:]) for word, row in rows if row[last] == 0}
    for word, row in rows:
        for other_word, other in rows:
            if row[last] > 0 > other[last]:
                total = [row[last] * b - other[last] * a for a, b in zip(row, other)]
                made.add((max(word, other_word), tuple(total[:last] + total[dimension:])))
    return has_points(made, last)


def reduced(rows):
    """Rows of fractions that span the same, each with a leading 1 that is the only number other than 0 at its place."""
    rows = [[Fraction(number) for number in row] for row in rows]
    count = 0
    for place in range(len(rows[0]) if rows else 0):
        pivot = next((k for k in range(count, len(rows)) if rows[k][place] != 0), None)
        if pivot is not None:
            rows[count], rows[pivot] = rows[pivot], rows[count]
            rows[count] = [number / rows[count][place] for number in rows[count]]
            for k, row in enumerate(rows):
                if k != count:
                    rows[k] = [a - row[place] * b for a, b in zip(row, rows[count])]
            count += 1
    return rows[:count]


def cleared(row, reduced_rows):
    """The row, 0 at the leading places of reduced ones."""
    row = [Fraction(number) for number in row]
    for other in reduced_rows:
        place = next(k for k, number in enumerate(other) if number != 0)
        row = [a - row[place] * b for a, b in zip(row, other)]
    return whole(row)


def always_zero(pairs, dimension):
    """The rows of those of some closed pairs, which hold somewhere, that are 0 wherever they hold."""
    pairs = list(pairs)
    return [row for word, row in pairs if word == "eq" or not has_points(pairs + [("gt", row)], dimension)]


def dimension_of(pairs, dimension):
    """The dimension of the set of closed pairs."""
    return dimension - len(reduced(always_zero(pairs, dimension)))


def body_anew(dimension, system):
    """The body of a system, told anew."""
    if not has_points(system, dimension):
        return None
    closed = loose(system)
    zero = always_zero(closed, dimension)
    flat = reduced(zero)
    walls = set()
    for word, row in closed:
        face = closed + [("eq", row)]
        if row not in zero and has_points(face, dimension):
            if dimension_of(face, dimension) == dimension - len(flat) - 1:
                walls.add(cleared(row, flat))
    walls = sorted(walls)
    out = set()
    for word, row in system:
        face = closed + [("eq", row)]
        if word == "gt" and has_points(face, dimension):
            out.add(tuple(k for k, wall in enumerate(walls) if not has_points(face + [("gt", wall)], dimension)))
    least = tuple(sorted(one for one in out if not any(set(other) < set(one) for other in out)))
    return (tuple(whole(row) for row in flat), tuple(walls), least)


def lies_within(system, other, dimension):
    """Whether the second system holds wherever the first one does."""
    for word, row in other:
        broken = [("ge", opposite(row))] if word == "gt" else [("gt", opposite(row))]
        if word == "eq":
            broken.append(("gt", row))
        if any(has_points(list(system) + [pair], dimension) for pair in broken):
            return False
    return True


def some_system(random, dimension, many):
    """A system of so many small pairs."""
    words = random.choice((("ge",), ("gt", "ge"), ("gt", "ge", "ge", "eq"), ("gt",)))
    return tuple((random.choice(words), tuple(random.randint(-2, 2) for _ in range(dimension + 1)))
                 for _ in range(many))


def some_box(random, dimension):
    """Two pairs for each coordinate, by which it is from -2 to 2 at most."""
    pairs = []
    for place in range(dimension):
        unit = tuple(int(place == own) for own in range(dimension))
        for row in (unit, opposite(unit)):
            pairs.append((random.choice(("gt", "ge")), row + (random.randint(0, 2),)))
    return tuple(pairs)


def some_systems(dimension, many, seed):
    """Small systems, some of them bounded, some that hold nowhere, some with pairs that lean on corners and edges."""
    random = Random(seed)
    for number in range(many):
        if number % 2:
            yield some_box(random, dimension) + some_system(random, dimension, random.randint(0, 3))
        else:
            yield some_system(random, dimension, random.randint(0, (0, 5, 6, 6, 5)[dimension]))
