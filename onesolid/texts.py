"""Formulas and points as texts: words with one blank between, and back."""

from onesolid.errors import NotText, TooGreat
from onesolid.formulas import GREATEST_DIMENSION, GREATEST_NUMBER, MOST_DEPTH, MOST_WORDS, SIGN_WORDS, inner_dimension
from onesolid.points import check_point

NUMBER_DIGITS = 7
POINT_DIGITS = 1000
LEAF_WORDS = SIGN_WORDS + ("and", "or")


def formula_text(formula):
    """The text of a formula."""
    words = []
    _tell_formula(words, formula)
    return " ".join(words)


def point_text(point):
    """The text of a point."""
    return " ".join([_integer_text(number) for number in point])


def _tell_formula(words, formula):
    """Puts the words of a formula behind some words."""
    word = formula[0]
    if word == "is":
        # The word of the sign alone: "is" stands in no text.
        words.append(formula[1])
        _tell_row(words, formula[2])
        return
    words.append(word)
    parts = formula[1:]
    if word in ("and", "or"):
        words.append(str(len(parts)))
    if word == "back":
        words.append(str(len(formula[1])))
        for row in formula[1]:
            _tell_row(words, row)
        parts = formula[2:]
    for part in parts:
        _tell_formula(words, part)


def _tell_row(words, row):
    for number in row:
        if abs(number) > GREATEST_NUMBER:
            raise TooGreat(GREATEST_NUMBER)
        words.append(_integer_text(number))


def _integer_text(number):
    """An integer in decimal."""
    if number < 0:
        return "-" + _integer_text(-number)
    digits = ""
    # In pieces, as Python itself refuses to write some thousand digits at once.
    while number >= 10 ** 60:
        number, low = divmod(number, 10 ** 60)
        digits = str(low).zfill(60) + digits
    return str(number) + digits


def read_formula(dimension, text):
    """The formula of the dimension that has this text."""
    if not isinstance(text, str):
        raise NotText(None, None)
    reader = Reader(text)
    formula = _read_part(reader, dimension, 1)
    reader.end()
    return formula


def read_point(dimension, text):
    """The point of the dimension that has this text."""
    if not isinstance(text, str):
        raise NotText(None, None)
    reader = Reader(text)
    numbers = [reader.read_integer(POINT_DIGITS) for _ in range(dimension + 1)]
    reader.end()
    return check_point(dimension, tuple(numbers))


class Reader:
    """The words of a text, read one by one; the first one that is not as wanted is refused."""

    def __init__(self, text):
        self.words = text.split(" ")
        self.at = 0
        # How many formulas the text is bound to have: those begun, and the parts that these still want.
        self.bound = 1

    def read_word(self, choices):
        """The next word, which is to be one of some."""
        if self.at == len(self.words) or self.words[self.at] not in choices:
            raise NotText(0, self.at)
        self.at += 1
        return self.words[self.at - 1]

    def read_integer(self, most_digits):
        """The next word as an integer of at most so many digits."""
        if self.at == len(self.words) or not _is_integer_text(self.words[self.at], most_digits):
            raise NotText(0, self.at)
        self.at += 1
        return int(self.words[self.at - 1])

    def read_number(self, least, most):
        """The next word as an integer within bounds."""
        place = self.at
        number = self.read_integer(NUMBER_DIGITS)
        if not least <= number <= most:
            raise NotText(0, place)
        return number

    def end(self):
        """Refuses a word that is left."""
        if self.at < len(self.words):
            raise NotText(0, self.at)


def _is_integer_text(word, most_digits):
    """Whether a word is an integer in decimal, without unneeded signs and noughts."""
    digits = word.removeprefix("-")
    if not 1 <= len(digits) <= most_digits or not all([digit in "0123456789" for digit in digits]):
        return False
    return word == "0" or digits[0] != "0"


def _read_part(reader, dimension, depth):
    """The formula of the dimension that comes next, so deep in the whole."""
    word = reader.read_word(_words_possible(reader, dimension, depth))
    if word in SIGN_WORDS:
        return ("is", word, _read_row(reader, dimension))
    if word in ("and", "or"):
        many = reader.read_number(0, MOST_WORDS - reader.bound if depth < MOST_DEPTH else 0)
        reader.bound += many
        return (word,) + tuple([_read_part(reader, dimension, depth + 1) for _ in range(many)])
    reader.bound += 1
    if word == "back":
        many = reader.read_number(1, GREATEST_DIMENSION)
        table = tuple([_read_row(reader, dimension) for _ in range(many)])
        return (word, table, _read_part(reader, many, depth + 1))
    return (word, _read_part(reader, inner_dimension(dimension, (word,)), depth + 1))


def _words_possible(reader, dimension, depth):
    """The words that may begin a formula there: without parts if no more may come or go deeper."""
    if depth == MOST_DEPTH or reader.bound == MOST_WORDS:
        return LEAF_WORDS
    if dimension == GREATEST_DIMENSION:
        return LEAF_WORDS + ("not", "back")
    return LEAF_WORDS + ("not", "back", "some", "every")


def _read_row(reader, dimension):
    numbers = [reader.read_number(-GREATEST_NUMBER, GREATEST_NUMBER) for _ in range(dimension + 1)]
    return tuple(numbers)
