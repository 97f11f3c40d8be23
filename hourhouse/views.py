"""A hand's own spans, by its book and its table."""

from hourhouse.spans import meets


def is_meeting(held, but):
    """Whether what holds a hand is the meeting of a pair of asker and number."""
    return but is not None and held[2] == but[0] and held[3] == but[1]


def own_spans(book, table, hand, begin, end):
    """The list of a hand's own spans that take some moment from begin on, ahead of end, in order, each once."""
    spans = [(span[0], span[1]) for span in book.spans(begin, end)]
    held = [(span[0], span[1]) for span in table.holds(hand) if meets(span, begin, end)]
    return sorted(set(spans + held))


def is_free(book, table, hand, begin, end, but=None):
    """Whether no own span of a hand meets a span, the meeting of the pair but left aside."""
    if book.spans(begin, end):
        return False
    held = [span for span in table.holds(hand) if not is_meeting(span, but)]
    return not any([meets(span, begin, end) for span in held])
