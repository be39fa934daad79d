"""Formulas and points as texts: words with one blank between, and back."""

from onesolid.errors import NotText, TooGreat
from onesolid.formulas import GREATEST_NUMBER
from onesolid.points import check_point
from onesolid.reading import Reader, read_part

POINT_DIGITS = 1000


def formula_text(formula):
    """The text of a formula."""
    words = []
    tell_formula(words, formula)
    return " ".join(words)


def point_text(point):
    """The text of a point."""
    return " ".join([integer_text(number) for number in point])


def tell_formula(words, formula):
    """Puts the words of a formula, in which there may be entries of a history, behind some words."""
    word = formula[0]
    if word == "is":
        # The word of the sign alone: "is" stands in no text.
        words.append(formula[1])
        _tell_row(words, formula[2])
        return
    words.append(word)
    parts = formula[1:]
    if word in ("and", "or"):
        words.append(str(len(parts)))
    if word == "back":
        words.append(str(len(formula[1])))
        for row in formula[1]:
            _tell_row(words, row)
        parts = formula[2:]
    for part in parts:
        tell_formula(words, part)


def _tell_row(words, row):
    for number in row:
        if isinstance(number, tuple):
            words.extend(entry_words(number))
        elif abs(number) > GREATEST_NUMBER:
            raise TooGreat(GREATEST_NUMBER)
        else:
            words.append(integer_text(number))


def entry_words(entry):
    """The words of an entry of a history."""
    if not isinstance(entry, tuple):
        return [integer_text(entry)]
    words = ["(", integer_text(entry[0])]
    for name, many in entry[1]:
        words.extend([name, integer_text(many)])
    return words + [")"]


def integer_text(number):
    """An integer in decimal."""
    if number < 0:
        return "-" + integer_text(-number)
    digits = ""
    # In pieces, as Python itself refuses to write some thousand digits at once.
    while number >= 10 ** 60:
        number, low = divmod(number, 10 ** 60)
        digits = str(low).zfill(60) + digits
    return str(number) + digits


def read_formula(dimension, text):
    """The formula of the dimension that has this text."""
    if not isinstance(text, str):
        raise NotText(None, None)
    reader = Reader(0, text)
    formula = read_part(reader, dimension, 1)
    reader.end()
    return formula


def read_point(dimension, text):
    """The point of the dimension that has this text."""
    if not isinstance(text, str):
        raise NotText(None, None)
    reader = Reader(0, text)
    numbers = [reader.read_integer(POINT_DIGITS) for _ in range(dimension + 1)]
    reader.end()
    return check_point(dimension, tuple(numbers))
