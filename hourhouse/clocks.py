"""Places and what their clocks show."""

from hourhouse.errors import NoPlace
from hourhouse.names import is_name
from hourhouse.rules import count_below

DAY_MINUTES = 1440
MOST_OFFSET = 900
MOST_CHANGES = 400


def check_offset(offset):
    """Refuse an offset out of its bounds."""
    if offset < -MOST_OFFSET or offset > MOST_OFFSET:
        raise NoPlace("an offset of the place is out of its bounds")


def check_changes(changes):
    """Refuse changes that don't rise, are too many, or have a wrong offset."""
    if len(changes) > MOST_CHANGES:
        raise NoPlace("the place has too many changes")
    for place in range(1, len(changes)):
        if changes[place][0] <= changes[place - 1][0]:
            raise NoPlace("the changes of the place don't rise")
    for change in changes:
        check_offset(change[1])


class Place:
    """A place by its name, its offset ahead of all changes, and its changes."""

    def __init__(self, name, offset, changes=None):
        if not is_name(name):
            raise NoPlace("the name of the place is none")
        check_offset(offset)
        self.name = name
        self.offset = offset
        self.changes = () if changes is None else tuple(changes)
        check_changes(self.changes)
        # The moments alone, in which offsets are looked up.
        self.moments = tuple([moment for moment, later in self.changes])


def offset_behind(place, many):
    """The offset of a place behind so many of its changes."""
    return place.changes[many - 1][1] if many > 0 else place.offset


def changes_until(place, moment):
    """How many changes of a place aren't behind a moment."""
    return count_below(place.moments, moment + 1)


def offset_at(place, moment):
    """The offset of a place at a moment."""
    return offset_behind(place, changes_until(place, moment))


def shown(place, moment):
    """What the clock of a place shows at a moment: a pair of a local day and a minute of it."""
    return divmod(moment + offset_at(place, moment), DAY_MINUTES)


def moments_of(place, day, minute):
    """The list of the moments at which the clock of a place shows a local time, rising."""
    local = day * DAY_MINUTES + minute
    # No offset is beyond its bound, so no moment farther off shows that local time.
    first = changes_until(place, local - MOST_OFFSET)
    last = changes_until(place, local + MOST_OFFSET)
    found = []
    for many in range(first, last + 1):
        moment = local - offset_behind(place, many)
        if changes_until(place, moment) == many:
            found.append(moment)
    return found


def leap_over(place, local):
    """The moment of the first change at which the clock of a place is put from below a local time to above it."""
    first = changes_until(place, local - MOST_OFFSET)
    for many in range(first, len(place.moments)):
        moment = place.moments[many]
        ahead = moment - 1 + offset_behind(place, many)
        if ahead < local < moment + offset_behind(place, many + 1):
            return moment
    return None


def moment_of(place, day, minute, later=False):
    """The first moment at which the clock of a place shows a local time, or the last one where later is True.

    Where it is shown at none, the moment of the change that leaps over it.
    """
    found = moments_of(place, day, minute)
    if not found:
        return leap_over(place, day * DAY_MINUTES + minute)
    return found[-1] if later else found[0]
