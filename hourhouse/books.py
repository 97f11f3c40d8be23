"""Books of the things that take a hand's hours."""

from hourhouse.errors import Full, Known, NoThing
from hourhouse.names import is_name
from hourhouse.spans import cut
from hourhouse.things import Again, Once

MOST_THINGS = 40


class Book:
    """A book of things by their names."""

    def __init__(self):
        self.by_name = {}

    def check_new(self, name):
        """Refuse another thing in a full book, or one of a name that is none or is there."""
        if len(self.by_name) >= MOST_THINGS:
            raise Full("the book has as many things as it may have")
        if not is_name(name):
            raise NoThing("the name of the thing is none")
        if name in self.by_name:
            raise Known("the book has a thing of that name")

    def coming_again(self, name):
        """The thing of a name, which is to be one that comes again."""
        thing = self.by_name.get(name)
        if not isinstance(thing, Again):
            raise NoThing("the book has no thing of that name that comes again")
        return thing

    def once(self, name, begin, end):
        """Put in a thing that comes once."""
        self.check_new(name)
        self.by_name[name] = Once(begin, end)

    def again(self, name, rule, place, minute, length):
        """Put in a thing that comes again."""
        self.check_new(name)
        self.by_name[name] = Again(rule, place, minute, length)

    def drop(self, name):
        """Let a thing go."""
        if name not in self.by_name:
            raise NoThing("the book has no thing of that name")
        self.by_name.pop(name)

    def leave(self, name, day):
        """Leave out a day of a thing that comes again."""
        self.by_name[name] = self.coming_again(name).without_day(day)

    def extra(self, name, day):
        """Add a day to a thing that comes again."""
        self.by_name[name] = self.coming_again(name).with_day(day)

    def shift(self, name, day, goal):
        """Move a day of a thing that comes again to another one."""
        self.by_name[name] = self.coming_again(name).with_moved(day, goal)

    def things(self):
        """The list of the names of all things, rising."""
        return sorted(self.by_name)

    def spans(self, begin, end):
        """The list of (begin, end, name) of all spans that take some moment from begin on, ahead of end."""
        found = []
        for name in self.by_name:
            for span in self.by_name[name].spans_in(begin, end):
                found.append((span[0], span[1], name))
        return sorted(set(found))

    def busy(self, begin, end):
        """The laid spans of all that the book tells, cut to the moments from begin on, ahead of end."""
        return cut([(span[0], span[1]) for span in self.spans(begin, end)], begin, end)

    def twin(self):
        """Another book alike, apart from this one."""
        other = Book()
        # Things are never changed, only put in each other's place, so both books may have the same ones.
        other.by_name.update(self.by_name)
        return other
