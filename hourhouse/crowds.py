"""How many rows of spans take a moment, and which moments none of them takes."""

from hourhouse.spans import cut, laid, minus


def steps_of(rows, begin, end):
    """By how much the number of rows that take a moment changes, by moments from begin to end."""
    steps = {}
    for row in rows:
        for span in cut(row, begin, end):
            steps[span[0]] = steps.get(span[0], 0) + 1
            steps[span[1]] = steps.get(span[1], 0) - 1
    return steps


def crowd(rows, begin, end):
    """The list of (begin, end, number) from begin on, ahead of end: how many rows take all moments of each."""
    steps = steps_of(rows, begin, end)
    found = []
    number = 0
    last = begin
    # Where as many rows end as begin nothing changes.
    for moment in [moment for moment in sorted(steps) if steps[moment] != 0]:
        if moment > last:
            found.append((last, moment, number))
        number += steps[moment]
        last = moment
    if last < end:
        found.append((last, end, number))
    return found


def free(rows, begin, end, least=1):
    """The laid spans from begin on, ahead of end, that no row takes, but those of fewer moments than least."""
    spans = []
    for row in rows:
        spans.extend(row)
    taken_ones = laid(spans)
    if begin >= end:
        return []
    return [span for span in minus([(begin, end)], taken_ones) if span[1] - span[0] >= least]


def first_free(rows, begin, end, many=1):
    """The least moment from begin on from which many moments on, all ahead of end, no row takes, or None."""
    found = free(rows, begin, end, many)
    return found[0][0] if found else None
