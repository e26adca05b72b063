"""The state of a run of a filter, and what its steps do to it.

A run is a machine without calls of its own, so that it may be nested as deep as it has steps. What is to be done with
an outcome are its frames, (word, what it needs, the frames behind it); what can still be given are its choices, the
last one first, each with the frames, the path and the guidance that were there. Both, and the path, are linked tuples
that are never changed; what is counted or gathered over several outcomes stands in numbered cells. So a run is copied
by copying what it holds.

A run may be guided along a way: then its choices are told by the entries of the way, and choices that are not made by
entries, as those within a list, are free. Where the way has led to something the run goes on unguided.
"""

from sieveways.errors import NoWay

BEGIN = "begin"
GIVE = "give"
BACK = "back"
FAIL = "fail"


class StepsDone(Exception):
    """One step more is due than the limit of a run allows."""


class Engine:
    """The state of a run. A path is (number, whether it is open, the path ahead); None is the empty one."""

    def __init__(self, limit):
        self.limit = limit
        self.noted = []
        self.cells = {}
        self.frames = None
        self.choices = None
        self.path = None
        self.guide = None
        self.used = 0
        self.is_led = False
        self.task = BACK
        self.term = None
        self.datum = None
        self.place = ()
        self.env = None

    def twin(self):
        """A state equal to this one, that goes on by itself."""
        other = Engine(self.limit)
        other.noted = list(self.noted)
        other.cells = {number: self.cells[number] for number in self.cells}
        other.frames = self.frames
        other.choices = self.choices
        other.path = self.path
        other.guide = self.guide
        other.used = self.used
        other.is_led = self.is_led
        other.begin(self.term, self.datum, self.place, self.env)
        other.task = self.task
        return other

    def begin(self, term, datum, place, env):
        """The next thing to do is to run a filter; the place counts where a chooser is run for its places."""
        self.task = BEGIN
        self.term = term
        self.datum = datum
        self.place = place
        self.env = env

    def give(self, datum, place=()):
        """The next thing to do is to hand an outcome to the frames."""
        self.task = GIVE
        self.datum = datum
        self.place = place

    def back(self):
        """The next thing to do is to go back to the last choice."""
        self.task = BACK

    def fail(self, reason):
        """The next thing to do is to look for who meets a failing."""
        self.task = FAIL
        self.datum = reason

    def note(self, event):
        """One step more."""
        if len(self.noted) >= self.limit:
            raise StepsDone()
        self.noted.append(event)

    def frame(self, word, told):
        """Outcomes go to this frame first."""
        self.frames = (word, told, self.frames)

    def choice(self, word, told):
        """Going back comes to this choice first, with frames, path and guidance as they are now."""
        self.choices = (word, told, self.frames, self.path, self.is_led, self.choices)

    def last_choice(self):
        """Takes the last choice away, and goes back to what was there then: its word and what it needs."""
        word, told, self.frames, self.path, self.is_led, self.choices = self.choices
        return word, told

    def mark(self):
        """The choices, path and guidance, to be gone back to."""
        return self.choices, self.path, self.is_led

    def reset(self, mark):
        """Leaves what has been done since a mark was taken, without going back to its choices."""
        self.choices, self.path, self.is_led = mark

    def new_cell(self, worth):
        """The number of a new cell."""
        number = len(self.cells)
        self.cells[number] = worth
        return number

    def chose(self, number, is_open):
        """One choice more on the path."""
        self.path = (number, is_open, self.path)

    def is_guided(self):
        """Whether choices are told by the way here."""
        return self.guide is not None and self.is_led

    def entry(self):
        """The next entry of the way."""
        if self.used == len(self.guide):
            raise NoWay(self.used)
        self.used += 1
        return self.guide[self.used - 1]

    def refuse(self):
        """The last entry is none that the choice allows."""
        self.refuse_at(self.used - 1)

    def refuse_at(self, index):
        """An entry is none that its choice allows."""
        raise NoWay(index)

    def demand_used(self):
        """Raises NoWay if entries are left over when it is known what the way leads to."""
        if self.guide is not None and self.used < len(self.guide):
            raise NoWay(self.used)


def path_numbers(path):
    """The numbers of a path, the first choice first."""
    numbers = []
    while path is not None:
        number, _, path = path
        numbers.append(number)
    return tuple(reversed(numbers))


def open_choices(path):
    """How many choices of a path are open."""
    many = 0
    while path is not None:
        _, is_open, path = path
        if is_open:
            many += 1
    return many
