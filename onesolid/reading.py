"""Words read one by one, and formulas told by them."""

from onesolid.errors import NotText
from onesolid.formulas import GREATEST_DIMENSION, GREATEST_NUMBER, MOST_DEPTH, MOST_WORDS, SIGN_WORDS, inner_dimension
from onesolid.tellings import MOST_PARTS, is_name

NUMBER_DIGITS = 7
LEAF_WORDS = SIGN_WORDS + ("and", "or")


class Reader:
    """The words of a line of a text, read one by one; the first one that is not as wanted is refused."""

    def __init__(self, line, text):
        self.line = line
        self.words = text.split(" ")
        self.at = 0
        # How many formulas the text is bound to have: those begun, and the parts that these still want.
        self.bound = 1
        # Whether there may be entries where formulas have the last numbers of rows.
        self.has_entries = False

    def read_word(self, choices):
        """The next word, which is to be one of some."""
        if self.at == len(self.words) or self.words[self.at] not in choices:
            raise NotText(self.line, self.at)
        self.at += 1
        return self.words[self.at - 1]

    def read_integer(self, most_digits):
        """The next word as an integer of at most so many digits."""
        if self.at == len(self.words) or not _is_integer_text(self.words[self.at], most_digits):
            raise NotText(self.line, self.at)
        self.at += 1
        return int(self.words[self.at - 1])

    def read_number(self, least, most):
        """The next word as an integer within bounds."""
        place = self.at
        number = self.read_integer(NUMBER_DIGITS)
        if not least <= number <= most:
            raise NotText(self.line, place)
        return number

    def read_name(self):
        """The next word as a name."""
        if self.at == len(self.words) or not is_name(self.words[self.at]):
            raise NotText(self.line, self.at)
        self.at += 1
        return self.words[self.at - 1]

    def is_next(self, word):
        """Whether a word comes next."""
        return self.at < len(self.words) and self.words[self.at] == word

    def read_entry(self):
        """The next words as an entry: an integer, or what stands from "(" to ")"."""
        if not self.is_next("("):
            return self.read_integer(NUMBER_DIGITS)
        self.at += 1
        base = self.read_integer(NUMBER_DIGITS)
        parts = []
        while not parts or (len(parts) < MOST_PARTS and not self.is_next(")")):
            name = self.read_name()
            parts.append((name, self.read_integer(NUMBER_DIGITS)))
        self.read_word((")",))
        return (base, tuple(parts))

    def end(self):
        """Refuses a word that is left."""
        if self.at < len(self.words):
            raise NotText(self.line, self.at)


def _is_integer_text(word, most_digits):
    """Whether a word is an integer in decimal, without unneeded signs and noughts."""
    digits = word.removeprefix("-")
    if not 1 <= len(digits) <= most_digits or not all([digit in "0123456789" for digit in digits]):
        return False
    return word == "0" or digits[0] != "0"


def read_part(reader, dimension, depth):
    """The formula of the dimension that comes next, so deep in the whole."""
    word = reader.read_word(_words_possible(reader, dimension, depth))
    if word in SIGN_WORDS:
        if reader.has_entries:
            return ("is", word, _read_row(reader, dimension - 1) + (_read_last(reader),))
        return ("is", word, _read_row(reader, dimension))
    if word in ("and", "or"):
        many = reader.read_number(0, MOST_WORDS - reader.bound if depth < MOST_DEPTH else 0)
        reader.bound += many
        return (word,) + tuple([read_part(reader, dimension, depth + 1) for _ in range(many)])
    reader.bound += 1
    if word == "back":
        many = reader.read_number(1, GREATEST_DIMENSION)
        table = tuple([_read_row(reader, dimension) for _ in range(many)])
        return (word, table, read_part(reader, many, depth + 1))
    return (word, read_part(reader, inner_dimension(dimension, (word,)), depth + 1))


def _words_possible(reader, dimension, depth):
    """The words that may begin a formula there: without parts if no more may come or go deeper."""
    if depth == MOST_DEPTH or reader.bound == MOST_WORDS:
        return LEAF_WORDS
    if dimension == GREATEST_DIMENSION:
        return LEAF_WORDS + ("not", "back")
    return LEAF_WORDS + ("not", "back", "some", "every")


def _read_row(reader, dimension):
    numbers = [reader.read_number(-GREATEST_NUMBER, GREATEST_NUMBER) for _ in range(dimension + 1)]
    return tuple(numbers)


def _read_last(reader):
    """The last number of a row, for which there may be an entry."""
    if reader.is_next("("):
        return reader.read_entry()
    return reader.read_number(-GREATEST_NUMBER, GREATEST_NUMBER)
