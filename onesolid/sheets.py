"""Histories as texts, line by line, and sheets: such texts with claims behind them."""

from onesolid.cuttings import euler, is_bounded
from onesolid.errors import NotText
from onesolid.histories import check_history, form_in, outcomes_for, place_of_name
from onesolid.measures import volume
from onesolid.numbers import check_fraction
from onesolid.parts import parts_of
from onesolid.ranges import CLAIMS, check_claim, is_claim_so, names_in_claim
from onesolid.reading import NUMBER_DIGITS, Reader, read_part
from onesolid.tellings import MANY_WORDS, MOST_COPIES, MOST_NAMES, TWO_WORDS, entries_in, looks_in
from onesolid.texts import POINT_DIGITS, entry_words, integer_text, tell_formula

SPACES = ("1", "2", "3")
TELLING_WORDS = MANY_WORDS + ("of", "same", "not", "less", "close", "inner", "rim", "sum", "shrunk", "hull", "moved",
                              "copies", "back", "along", "always")
MEASURES = ("volume", "euler", "parts")
CLAIM_WORDS = ("empty", "all", "bounded", "within", "equal", "apart", "holds") + MEASURES


def history_text(history):
    """The text of a history."""
    dimension, numbers, features = history
    lines = [["space", str(dimension)]]
    for name, integer in numbers:
        lines.append(["number", name, integer_text(integer)])
    for name, telling in features:
        lines.append(["solid", name] + _words_of_telling(telling))
    return "\n".join([" ".join(words) for words in lines])


def _words_of_telling(telling):
    """The words of a telling: its own, what it tells, the names of the features that it looks at."""
    word = telling[0]
    words = [word]
    if word == "of":
        tell_formula(words, telling[1])
    elif word in MANY_WORDS:
        words.append(str(len(telling) - 1))
    elif word == "back":
        words.extend([integer_text(number) for row in telling[1] for number in row])
    elif word in ("along", "always"):
        words.extend([integer_text(number) for number in telling[1]])
    elif word == "copies":
        words.append(str(telling[1]))
    if word in ("moved", "copies"):
        for entry in entries_in(telling):
            words.extend(entry_words(entry))
    return words + list(looks_in(telling))


def read_history(text):
    """The history that has any value as its text."""
    return _read_sheet(text, False)[0]


def _read_sheet(text, has_claims):
    """The history and the claims, pairs (is denied, claim), of any value, if it is the text of such."""
    if not isinstance(text, str):
        raise NotText(None, None)
    lines = text.split("\n")
    reader = Reader(0, lines[0])
    reader.read_word(("space",))
    dimension = int(reader.read_word(SPACES))
    reader.end()
    numbers = []
    features = []
    claims = []
    for number, line in enumerate(lines[1:]):
        reader = Reader(number + 1, line)
        word = reader.read_word(_words_ahead(has_claims, features, claims))
        if word == "number":
            name = reader.read_name()
            numbers.append((name, reader.read_integer(NUMBER_DIGITS)))
        elif word == "solid":
            name = reader.read_name()
            features.append((name, _read_telling(reader, dimension)))
        elif word == "not":
            claims.append((True, _read_claim(reader, dimension, reader.read_word(CLAIM_WORDS))))
        else:
            claims.append((False, _read_claim(reader, dimension, word)))
        reader.end()
    return check_history((dimension, tuple(numbers), tuple(features))), claims


def _words_ahead(has_claims, features, claims):
    """The words with which a line may begin behind some features and claims."""
    words = CLAIM_WORDS + ("not",) if has_claims else ()
    if claims:
        return words
    return words + (("solid",) if features else ("solid", "number"))


def _read_telling(reader, dimension):
    """The telling that comes next."""
    word = reader.read_word(TELLING_WORDS)
    if word == "of":
        reader.has_entries = True
        return ("of", read_part(reader, dimension, 1))
    told = ()
    many = 1
    if word in MANY_WORDS:
        many = reader.read_number(1, MOST_NAMES)
    elif word in TWO_WORDS:
        many = 2
    elif word == "back":
        told = (tuple([_read_integers(reader, dimension + 1) for _ in range(dimension)]),)
    elif word in ("along", "always"):
        told = (_read_integers(reader, dimension),)
    elif word == "moved":
        told = (_read_entries(reader, dimension),)
    elif word == "copies":
        turns = reader.read_number(1, MOST_COPIES)
        told = (turns, _read_entries(reader, dimension))
    return (word,) + told + tuple([reader.read_name() for _ in range(many)])


def _read_integers(reader, many):
    return tuple([reader.read_integer(NUMBER_DIGITS) for _ in range(many)])


def _read_entries(reader, many):
    return tuple([reader.read_entry() for _ in range(many)])


def _read_claim(reader, dimension, word):
    """The claim that comes next behind its word."""
    names = tuple([reader.read_name() for _ in range(CLAIMS.get(word, 1))])
    if word == "holds":
        point = tuple([reader.read_integer(POINT_DIGITS) for _ in range(dimension + 1)])
        return (word,) + names + (point,)
    if word == "volume":
        top = reader.read_integer(POINT_DIGITS)
        return (word,) + names + ((top, reader.read_integer(POINT_DIGITS)),)
    if word in MEASURES:
        return (word,) + names + (reader.read_integer(POINT_DIGITS),)
    return (word,) + names


def judged(text):
    """For each claim of any value, if it is the text of a sheet, whether it is so, or is not so behind "not"."""
    history, claims = _read_sheet(text, True)
    for _, claim in claims:
        _check_told(history, claim)
    names = [name for _, claim in claims for name in _names_in(claim)]
    outcomes = outcomes_for(history, names)
    return tuple([_is_told_so(claim, outcomes) != is_denied for is_denied, claim in claims])


def _names_in(claim):
    return claim[1:2] if claim[0] in MEASURES else names_in_claim(claim)


def _check_told(history, claim):
    """Refuses a claim of a sheet on what is no feature, no point, no fraction."""
    if claim[0] not in MEASURES:
        check_claim(history, claim)
        return
    place_of_name(history[2], claim[1])
    if claim[0] == "volume":
        check_fraction(claim[2])


def _is_told_so(claim, outcomes):
    """Whether a claim of a sheet is so."""
    word = claim[0]
    if word not in MEASURES:
        return is_claim_so(claim, outcomes)
    form = form_in(outcomes[claim[1]])
    if word == "volume":
        return is_bounded(form) and volume(form) == claim[2]
    if word == "euler":
        return euler(form) == claim[2]
    return len(parts_of(form)) == claim[2]
