"""Names, and the signs that texts are made of."""

LETTERS = "abcdefghijklmnopqrstuvwxyz"
FIGURES = "0123456789"
NAME_SIGNS = 8


def is_made_of(text, signs):
    """Whether each sign of a text is one of these."""
    return all([sign in signs for sign in text])


def is_name(text):
    """Whether a text is a name."""
    if len(text) < 1 or len(text) > NAME_SIGNS:
        return False
    return text[0] in LETTERS and is_made_of(text, LETTERS + FIGURES)
