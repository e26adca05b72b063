"""Houses: a book and data with names, changed step by step, and guarded ones, in which guards are kept true."""

from sieveways.contents import content_behind, first_content
from sieveways.data import alike, copied
from sieveways.entries import demand_names
from sieveways.errors import Broken, InvalidGuard, OutOfRange
from sieveways.guards import holds_in_house, is_guard, looks_at
from sieveways.told import is_told_alike
from sieveways.words import is_integer


class Story:
    """The contents of a house one after the other, and the place of the one that it has now.

    `viewed` are the guards that were looked at when it came to be there. Nothing in a story is ever changed: all is as
    before where the story of before is kept.
    """

    def __init__(self, contents, place, viewed):
        self.contents = contents
        self.place = place
        self.viewed = viewed
        self.now = contents[place]
        self.names = self.now.names

    def changed(self, content, viewed):
        """The story behind a change, with which nothing can be redone."""
        return Story((*self.contents[:self.place + 1], content), self.place + 1, viewed)

    def moved(self, many, viewed):
        """The story with the content so many places further on."""
        return Story(self.contents, self.place + many, viewed)


class House:
    """A book and data with names."""

    def __init__(self, book, data):
        demand_names(data)
        self._story = Story((first_content(book, data),), 0, ())
        self._trials = 0

    @property
    def book(self):
        """The book."""
        return self._story.now.shelf

    @property
    def data(self):
        """The data by their names."""
        return copied(self._story.now.table)

    @property
    def moment(self):
        """How many changes are done and not undone."""
        return self._story.place

    @property
    def undone(self):
        """How many changes can be redone."""
        return len(self._story.contents) - 1 - self._story.place

    @property
    def depth(self):
        """How many trials are in progress."""
        return self._trials

    @property
    def looked(self):
        """The guards that were looked at last: none."""
        return ()

    @property
    def asked(self):
        """How many guards have been looked at in all: none."""
        return 0

    def __iter__(self):
        return iter(self._story.names)

    def __eq__(self, other):
        if not isinstance(other, House) or isinstance(other, GuardedHouse):
            return False
        return _are_alike(self._story, other._story)

    def change(self, *deeds):
        """Does deeds in one change."""
        self._story = self._story.changed(content_behind(self._story.now, deeds), ())

    def undo(self, count=1):
        """Takes so many changes back."""
        _demand_range(count, self.moment)
        self._story = self._story.moved(-count, ())

    def redo(self, count=1):
        """Does so many changes again that were taken back."""
        _demand_range(count, self.undone)
        self._story = self._story.moved(count, ())

    def attempt(self, action):
        """Returns what an action on the house returns; if it raises an error, all is as before."""
        trials = self._trials
        kept = self._story
        self._trials = trials + 1
        try:
            told = action(self)
            kept = self._story
        finally:
            self._story = kept
            self._trials = trials
        return told

    def explore(self, action):
        """Returns what an action on the house returns; all is as before in any case."""
        trials = self._trials
        before = self._story
        self._trials = trials + 1
        try:
            return action(self)
        finally:
            self._story = before
            self._trials = trials

    def copy(self):
        """A house like this one, in no trial."""
        other = House(self.book, {})
        other._story = self._story
        return other


class GuardedHouse(House):
    """A house in which guards are kept true."""

    def __init__(self, book, data, *guards):
        super().__init__(book, data)
        for index, guard in enumerate(guards):
            if not is_guard(guard):
                raise InvalidGuard(index)
        self._guards = guards
        self._asked = 0
        viewed = tuple(range(len(guards)))
        self._demand_held(viewed, self._story.now)
        self._story = self._story.moved(0, viewed)

    @property
    def guards(self):
        """The guards, in order."""
        return self._guards

    @property
    def looked(self):
        """The indexes of the guards that were looked at by the last change, undo or redo; at first all."""
        return self._story.viewed

    @property
    def asked(self):
        """How many guards have been looked at in all."""
        return self._asked

    def __eq__(self, other):
        if not isinstance(other, GuardedHouse) or not is_told_alike(self._guards, other._guards):
            return False
        return _are_alike(self._story, other._story)

    def change(self, *deeds):
        """Does deeds in one change, if all guards hold behind it."""
        content = content_behind(self._story.now, deeds)
        viewed = self._viewed(content)
        self._demand_held(viewed, content)
        self._story = self._story.changed(content, viewed)

    def undo(self, count=1):
        """Takes so many changes back."""
        _demand_range(count, self.moment)
        self._move(-count)

    def redo(self, count=1):
        """Does so many changes again that were taken back."""
        _demand_range(count, self.undone)
        self._move(count)

    def copy(self):
        """A house like this one, in no trial."""
        other = GuardedHouse(self.book, {})
        other._guards = self._guards
        other._asked = self._asked
        other._story = self._story
        return other

    def _move(self, many):
        """Goes to the content so many places further on, where all guards hold, as they did when it came to be."""
        story = self._story.moved(many, ())
        viewed = self._viewed(story.now)
        self._asked += len(viewed)
        self._story = story.moved(0, viewed)

    def _viewed(self, content):
        """The indexes of the guards that look at something that is not what it was before."""
        before = self._story.now
        return tuple([index for index, guard in enumerate(self._guards) if looks_at(guard, before, content)])

    def _demand_held(self, viewed, content):
        """Raises Broken for the first one of these guards that does not hold; each one that is looked at is counted."""
        for index in viewed:
            self._asked += 1
            if not holds_in_house(self._guards[index], content):
                raise Broken(index)


def _are_alike(one, other):
    """Whether the houses of two stories have equal books and data, at equal moments."""
    return one.place == other.place and one.now.shelf == other.now.shelf and alike(one.now.table, other.now.table)


def _demand_range(value, most):
    """Raises OutOfRange for any value that is not an integer from 0 to the most."""
    if not is_integer(value) or not 0 <= value <= most:
        raise OutOfRange(value)
