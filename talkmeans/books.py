"""Books, which tell which talk can come behind which."""

from talkmeans.errors import InvalidBook, InvalidTalk, InvalidText, NoTalk
from talkmeans.kinds import is_name, is_pair, is_sequence
from talkmeans.talks import Talk


class Book:
    """Talks with names, and steps (p, q): the talk q can come behind the talk p."""

    def __init__(self, talks, steps=()):
        if not are_talks(talks):
            raise InvalidBook("talks")
        if not are_steps(steps, [pair[0] for pair in talks]):
            raise InvalidBook("steps")
        self.talks = tuple(talks)
        self.steps = tuple(sorted(steps))

    @classmethod
    def read(cls, text):
        """The book with this text."""
        talks = []
        steps = []
        for at, line in enumerate(text.split("\n")):
            step = told_step(line)
            # Behind the first step no talk is at its place.
            talk = told_talk(line) if len(steps) == 0 else None
            if step is not None:
                steps.append(step)
            elif talk is not None:
                talks.append(talk)
            else:
                raise InvalidText(at)
        return cls(talks, steps)

    @property
    def names(self):
        """The names in the order of the talks."""
        return tuple([pair[0] for pair in self.talks])

    @property
    def people(self):
        """How many people there are."""
        return len(self.talks[0][1])

    def behind(self, name):
        """The names of the talks that can come behind this one."""
        check_name(self, name)
        return tuple([then for first, then in self.steps if first == name])

    def without(self, name):
        """The book without this talk and its steps."""
        check_name(self, name)
        talks = [pair for pair in self.talks if pair[0] != name]
        return Book(talks, [step for step in self.steps if name not in step])

    def with_step(self, first, then):
        """The book with one more step."""
        check_name(self, first)
        check_name(self, then)
        if (first, then) in self.steps:
            return self
        return Book(self.talks, self.steps + ((first, then),))

    def heeding(self, name, i, j):
        """The book in which i heeds j in this talk with 1 more weight."""
        rows = [list(row) for row in self[name].rows]
        rows[i][j] += 1
        changed = (name, Talk(rows))
        talks = [changed if pair[0] == name else pair for pair in self.talks]
        return Book(talks, self.steps)

    def firm(self, lot):
        """The book in which the people of the lot are firm in all talks."""
        return Book([(name, talk.firm(lot)) for name, talk in self.talks], self.steps)

    def __getitem__(self, at):
        for name, talk in self.talks:
            if name == at:
                return talk
        raise NoTalk(at)

    def __iter__(self):
        raise TypeError("a book is not iterable")

    def __add__(self, other):
        return Book(self.talks + other.talks, self.steps + other.steps)

    def __eq__(self, other):
        return isinstance(other, Book) and self.talks == other.talks and self.steps == other.steps

    def __str__(self):
        talks = [f"talk {name} {talk}" for name, talk in self.talks]
        steps = [f"behind {first} {then}" for first, then in self.steps]
        return "\n".join([*talks, *steps])


def check_name(book, name):
    if name not in book.names:
        raise NoTalk(name)


def are_talks(talks):
    """Whether any value at all is the talks of a book."""
    if not is_sequence(talks) or len(talks) == 0:
        return False
    if not all([is_named_talk(pair) for pair in talks]):
        return False
    if not all([len(pair[1]) == len(talks[0][1]) for pair in talks]):
        return False
    return len({pair[0] for pair in talks}) == len(talks)


def is_named_talk(value):
    return is_pair(value) and is_name(value[0]) and isinstance(value[1], Talk)


def are_steps(steps, names):
    """Whether any value at all is the steps of a book with talks of these names."""
    if not is_sequence(steps):
        return False
    # Only pairs of names are put into a set: other things may not be hashable.
    if not all([is_pair(step) and step[0] in names and step[1] in names for step in steps]):
        return False
    return len(set(steps)) == len(steps)


def told_talk(line):
    """The name and the talk that a line tells, or None."""
    words = line.split(" ", 2)
    if len(words) != 3 or words[0] != "talk" or not is_name(words[1]):
        return None
    try:
        return (words[1], Talk.read(words[2]))
    except (InvalidText, InvalidTalk):
        return None


def told_step(line):
    """The step that a line tells, or None."""
    words = line.split(" ")
    if len(words) != 3 or words[0] != "behind" or not is_name(words[1]) or not is_name(words[2]):
        return None
    return (words[1], words[2])
