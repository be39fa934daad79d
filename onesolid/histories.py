"""Histories: numbers with names, and features that tell sets by formulas with these numbers and by one another."""

from onesolid.errors import NotHistory, NotName, TooGreat, Unlike
from onesolid.features import outcome_of
from onesolid.numbers import is_whole
from onesolid.tellings import (
    is_integer, is_name, is_telling, looks_in, numbers_in_telling, with_integers, without_looks, worth_of,
)

MOST_NUMBERS = 20
MOST_FEATURES = 40
DIMENSIONS = (1, 2, 3)


def check_history(value):
    """The value, if it is a history."""
    if not isinstance(value, tuple) or len(value) != 3 or not is_whole(value[0]) or value[0] not in DIMENSIONS:
        raise NotHistory(())
    dimension, numbers, features = value
    _check_numbers(numbers)
    if not isinstance(features, tuple) or not 1 <= len(features) <= MOST_FEATURES:
        raise NotHistory((2,))
    known = [name for name, _ in numbers]
    ahead = []
    for place, feature in enumerate(features):
        if not _is_feature(dimension, known, ahead, feature):
            raise NotHistory((2, place))
        ahead.append(feature[0])
    return value


def _check_numbers(numbers):
    if not isinstance(numbers, tuple) or len(numbers) > MOST_NUMBERS:
        raise NotHistory((1,))
    last = ""
    for place, pair in enumerate(numbers):
        if not isinstance(pair, tuple) or len(pair) != 2 or not is_name(pair[0]) or not is_integer(pair[1]):
            raise NotHistory((1, place))
        if pair[0] <= last:
            raise NotHistory((1, place))
        last = pair[0]


def _is_feature(dimension, known, ahead, value):
    """Whether any value is a feature that may stand behind some, with some numbers known."""
    if not isinstance(value, tuple) or len(value) != 2 or not is_name(value[0]) or value[0] in ahead:
        return False
    telling = value[1]
    if not is_telling(dimension, telling) or not all([name in ahead for name in looks_in(telling)]):
        return False
    return all([name in known for name in numbers_in_telling(telling)])


def entry_worth(numbers, entry):
    """The integer of an entry, with the numbers of a history."""
    return worth_of(numbers, entry)


def place_of_name(pairs, value):
    """The place of the pair that has any value as its name."""
    for place, pair in enumerate(pairs):
        if isinstance(value, str) and pair[0] == value:
            return place
    raise NotName(value)


def telling_of(history, name):
    """The telling of the feature that has any value as its name."""
    return history[2][place_of_name(history[2], name)][1]


def telling_with(history, name):
    """The telling of a feature with integers for all entries."""
    return with_integers(history[1], telling_of(history, name))


def looks_of(history, name):
    """The names of the features that one looks at, in their order."""
    looks = looks_in(telling_of(history, name))
    return tuple([own for own, _ in history[2] if own in looks])


def all_looks(history, name):
    """The names of the features that one looks at, directly or not, in their order."""
    place_of_name(history[2], name)
    wanted = wanted_for(history, (name,))
    return tuple([own for own in wanted if own != name])


def wanted_for(history, names):
    """Some names of features and those of all that they look at, directly or not, in their order."""
    wanted = {name: True for name in names}
    for own, telling in reversed(history[2]):
        if own in wanted:
            for look in looks_in(telling):
                wanted[look] = True
    return [own for own, _ in history[2] if own in wanted]


def users_of(history, name):
    """The names of the features that look at one, in their order."""
    place_of_name(history[2], name)
    return tuple([own for own, telling in history[2] if name in looks_in(telling)])


def all_users(history, name):
    """The names of the features that look at one, directly or not, in their order."""
    place_of_name(history[2], name)
    found = []
    for own, telling in history[2]:
        if any([look == name or look in found for look in looks_in(telling)]):
            found.append(own)
    return tuple(found)


def names_of(history, name):
    """The names of the numbers that a feature names, ascending."""
    return numbers_in_telling(telling_of(history, name))


def all_names(history, name):
    """The names of the numbers that a feature and all that it looks at name, ascending."""
    place_of_name(history[2], name)
    wanted = wanted_for(history, (name,))
    return tuple(sorted({number for own in wanted for number in names_of(history, own)}))


def build(history):
    """The outcomes of all features."""
    outcomes = outcomes_for(history, [name for name, _ in history[2]])
    return tuple([outcomes[name] for name, _ in history[2]])


def outcomes_for(history, names):
    """The outcomes of some features and of all that they look at, by their names."""
    outcomes = {}
    for name in wanted_for(history, names):
        telling = telling_with(history, name)
        outcomes[name] = outcome_of(history[0], telling, [outcomes[look] for look in looks_in(telling)])
    return outcomes


def set_of(history, name):
    """The form of the set of a feature."""
    place_of_name(history[2], name)
    return form_in(outcomes_for(history, (name,))[name])


def form_in(outcome):
    """The form of an outcome."""
    if outcome[0] == "great":
        raise TooGreat(outcome[1])
    return outcome[1]


def swept(history, name):
    """The history of a feature and of all that it looks at, in the least order, with the numbers that they name."""
    dimension, numbers, features = history
    place_of_name(features, name)
    names = all_names(history, name)
    left = sorted(wanted_for(history, (name,)))
    known = dict(features)
    placed = []
    while left:
        ready = [own for own in left if all([look in placed for look in looks_in(known[own])])]
        placed.append(ready[0])
        left.remove(ready[0])
    kept = tuple([pair for pair in numbers if pair[0] in names])
    return (dimension, kept, tuple([(own, known[own]) for own in placed]))


def exchanged(history, name):
    """The history in which a feature and the one ahead of it have changed places."""
    dimension, numbers, features = history
    place = place_of_name(features, name)
    if place == 0 or features[place - 1][0] in looks_in(features[place][1]):
        raise Unlike()
    turned = (features[place], features[place - 1])
    return (dimension, numbers, features[:place - 1] + turned + features[place + 1:])


def renamed(history, name, fresh):
    """The history in which a feature has another name, also where others look at it."""
    dimension, numbers, features = history
    place_of_name(features, name)
    if not is_name(fresh) or fresh in [own for own, _ in features]:
        raise NotName(fresh)
    found = []
    for own, telling in features:
        looks = tuple([fresh if look == name else look for look in looks_in(telling)])
        found.append((fresh if own == name else own, without_looks(telling) + looks))
    return (dimension, numbers, tuple(found))
