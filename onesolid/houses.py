"""Houses: histories that are edited, with a book of what was made for their features."""

from onesolid.errors import Empty, NotName, NotNumber, TooGreat, Unlike
from onesolid.features import outcome_of
from onesolid.histories import (
    MOST_FEATURES, MOST_NUMBERS, check_history, exchanged, form_in, place_of_name, renamed, telling_with, users_of,
)
from onesolid.numbers import is_whole
from onesolid.tellings import is_integer, is_name, looks_in, numbers_in_telling, without_looks
from onesolid.texts import integer_text

# A history as small as may be.
LEAST_HISTORY = (1, (), (("a", ("of", ("or",))),))


class House:
    """A history, the edits that can be undone and redone, and the keys of features with their outcomes.

    The key of a feature is a text of its telling with integers and of the numbers of the outcomes that it looks at.
    """

    def __init__(self, history):
        self._history = check_history(history)
        self._behind = []
        self._ahead = []
        self._book = {}
        self._outcomes = []
        self._marks = {}
        self._made = ()
        self._found = {}
        self._go_through()

    def _go_through(self):
        """Finds the outcomes of all features; those of keys that are not in the book are made."""
        made = []
        found = {}
        for name, _ in self._history[2]:
            telling = telling_with(self._history, name)
            marks = [found[look] for look in looks_in(telling)]
            key = text_of((without_looks(telling), tuple(marks)))
            if key not in self._book:
                outcomes = [self._outcomes[mark] for mark in marks]
                self._book[key] = self._mark_of(outcome_of(self._history[0], telling, outcomes))
                made.append(name)
            found[name] = self._book[key]
        self._made = tuple(made)
        self._found = found

    def _mark_of(self, outcome):
        """The number of an outcome, the same for equal ones."""
        text = text_of(outcome)
        if text not in self._marks:
            self._marks[text] = len(self._outcomes)
            self._outcomes.append(outcome)
        return self._marks[text]

    @property
    def history(self):
        """The history as it is."""
        return self._history

    @property
    def made(self):
        """The names of the features whose keys were made by the last act, in order."""
        return self._made

    @property
    def makes(self):
        """The number of keys in the book."""
        return len(self._book)

    @property
    def acts(self):
        """How many edits can be undone."""
        return len(self._behind)

    def outcome(self, name):
        """The outcome of a feature."""
        place_of_name(self._history[2], name)
        return self._outcomes[self._found[name]]

    def form(self, name):
        """The form of the set of a feature."""
        return form_in(self.outcome(name))

    def set_number(self, name, integer):
        """Gives a number another integer."""
        dimension, numbers, features = self._history
        place = place_of_name(numbers, name)
        _check_integer(integer)
        return self._edit((dimension, numbers[:place] + ((name, integer),) + numbers[place + 1:], features))

    def number_more(self, name, integer):
        """Puts a number to the others."""
        dimension, numbers, features = self._history
        _check_fresh(numbers, name)
        _check_integer(integer)
        if len(numbers) == MOST_NUMBERS:
            raise TooGreat(MOST_NUMBERS)
        return self._edit((dimension, tuple(sorted(numbers + ((name, integer),))), features))

    def number_less(self, name):
        """Takes a number away that no feature names."""
        dimension, numbers, features = self._history
        place = place_of_name(numbers, name)
        if any([name in numbers_in_telling(telling) for _, telling in features]):
            raise Unlike()
        return self._edit((dimension, numbers[:place] + numbers[place + 1:], features))

    def put_telling(self, name, telling):
        """Gives a feature another telling."""
        dimension, numbers, features = self._history
        place = place_of_name(features, name)
        return self._edit((dimension, numbers, features[:place] + ((name, telling),) + features[place + 1:]))

    def feature_more(self, name, telling, *, at=None):
        """Puts a feature to the others, behind them all or with a number among them."""
        dimension, numbers, features = self._history
        _check_fresh(features, name)
        place = len(features) if at is None else at
        if not is_whole(place) or not 0 <= place <= len(features):
            raise NotNumber(at)
        if len(features) == MOST_FEATURES:
            raise TooGreat(MOST_FEATURES)
        return self._edit((dimension, numbers, features[:place] + ((name, telling),) + features[place:]))

    def feature_less(self, name):
        """Takes a feature away that no other one looks at."""
        dimension, numbers, features = self._history
        if users_of(self._history, name):
            raise Unlike()
        place = place_of_name(features, name)
        return self._edit((dimension, numbers, features[:place] + features[place + 1:]))

    def exchange(self, name):
        """Lets a feature and the one ahead of it change places."""
        return self._edit(exchanged(self._history, name))

    def rename(self, name, fresh):
        """Gives a feature another name."""
        return self._edit(renamed(self._history, name, fresh))

    def _edit(self, history):
        """Takes what an edit makes of the history, if it is one."""
        check_history(history)
        self._behind.append(self._history)
        self._ahead = []
        self._history = history
        self._go_through()
        return self._made

    def undo(self):
        """Brings back the history ahead of the last edit."""
        if not self._behind:
            raise Empty()
        self._ahead.append(self._history)
        self._history = self._behind.pop()
        self._go_through()
        return self._made

    def redo(self):
        """Brings back the history behind the edit that was undone last."""
        if not self._ahead:
            raise Empty()
        self._behind.append(self._history)
        self._history = self._ahead.pop()
        self._go_through()
        return self._made

    def copy(self):
        """A house in the same state that changes on its own."""
        twin = House(LEAST_HISTORY)
        twin._history = self._history
        twin._behind = list(self._behind)
        twin._ahead = list(self._ahead)
        twin._book = dict(self._book)
        twin._outcomes = list(self._outcomes)
        twin._marks = dict(self._marks)
        twin._made = self._made
        twin._found = dict(self._found)
        return twin

    def __len__(self):
        return len(self._history[2])

    def __eq__(self, other):
        if not isinstance(other, House):
            return False
        return self._history == other._history and self.acts == other.acts and self.makes == other.makes


def _check_integer(value):
    """Refuses any value that is no integer that may stand in a history."""
    if not is_integer(value):
        raise NotNumber(value)


def _check_fresh(pairs, value):
    """Refuses any value that is no name, or that of one of some pairs."""
    if not is_name(value) or value in [name for name, _ in pairs]:
        raise NotName(value)


def text_of(value):
    """A text for each value of tuples, strings of letters and integers, unlike ones for unlike values."""
    if isinstance(value, tuple):
        return "(" + " ".join([text_of(part) for part in value]) + ")"
    return value if isinstance(value, str) else integer_text(value)
