"""Spans of moments, and rows of them."""

from hourhouse.errors import NoSpan


def is_span(begin, end):
    """Whether two moments are a span."""
    return end > begin


def check_span(begin, end):
    """Refuse two moments that are no span."""
    if not is_span(begin, end):
        raise NoSpan("the span ends at or ahead of its beginning")


def laid(row):
    """The laid spans that take the same moments as a row."""
    for span in row:
        check_span(span[0], span[1])
    found = []
    for begin, end in sorted(row):
        if found and begin <= found[-1][1]:
            last = found.pop()
            found.append((last[0], max(last[1], end)))
        else:
            found.append((begin, end))
    return found


def minus(one, other):
    """The laid spans of the moments that one row takes and another doesn't."""
    found = []
    gaps = laid(other)
    place = 0
    for begin, end in laid(one):
        rest = begin
        while place < len(gaps) and gaps[place][0] < end:
            if rest < gaps[place][0]:
                found.append((rest, gaps[place][0]))
            rest = max(rest, gaps[place][1])
            if gaps[place][1] > end:
                break
            place += 1
        if rest < end:
            found.append((rest, end))
    return found


def both(one, other):
    """The laid spans of the moments that two rows both take."""
    found = []
    left = laid(one)
    right = laid(other)
    place = 0
    goal = 0
    while place < len(left) and goal < len(right):
        begin = max(left[place][0], right[goal][0])
        end = min(left[place][1], right[goal][1])
        if begin < end:
            found.append((begin, end))
        if left[place][1] < right[goal][1]:
            place += 1
        else:
            goal += 1
    return found


def cut(row, begin, end):
    """The laid spans of the moments that a row takes from begin on, ahead of end."""
    if begin < end:
        return both(row, [(begin, end)])
    # Nothing is told, but a span that is none is refused all the same.
    laid(row)
    return []


def taken(row):
    """How many moments a row takes."""
    return sum([end - begin for begin, end in laid(row)])


def meets(span, begin, end):
    """Whether a span takes some moment from begin on, ahead of end."""
    return max(span[0], begin) < min(span[1], end)
