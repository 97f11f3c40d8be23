"""The texts of rules, and the reading of them."""

from hourhouse.days import day_text, read_day
from hourhouse.errors import NoRule, NoText
from hourhouse.joins import Both, But, Changed, Either, Shifted, Within
from hourhouse.names import FIGURES, is_made_of
from hourhouse.rules import Days, Every, Monthly, Nth, Rule, Weekly, Where, Yearly

# Far beyond the rules that are promised, and still no deep recursion.
DEEPEST = 80


def number_text(number):
    """The text of a number."""
    try:
        return str(number)
    except ValueError:
        raise NoText("this number has too many figures") from None


def read_number(text):
    """The number of a text in figures without a nought ahead, behind `-` below nought."""
    figures = text[1:] if text[:1] == "-" else text
    if figures == "" or not is_made_of(figures, FIGURES):
        raise NoText("this text is not written as a number is")
    if figures[0] == "0" and text != "0":
        raise NoText("this number has a nought ahead, or a sign ahead of nought")
    try:
        return int(text)
    except ValueError:
        raise NoText("this number has too many figures") from None


def days_text(days):
    """The texts of days, each behind a blank."""
    return "".join([" " + day_text(day) for day in days])


def series_text(rule):
    """The first and every of a rule, each behind a blank."""
    first = day_text(rule.first)
    every = number_text(rule.every)
    return f" {first} {every}"


def simple_text(rule):
    """The text of a rule that isn't made of others, or None of one that is."""
    if isinstance(rule, Every):
        return "every " + number_text(rule.step) + " " + day_text(rule.first)
    if isinstance(rule, Weekly):
        return "weekly " + number_text(rule.mask) + series_text(rule)
    if isinstance(rule, Monthly):
        return "monthly " + number_text(rule.date) + series_text(rule)
    if isinstance(rule, Nth):
        return "nth " + number_text(rule.which) + " " + number_text(rule.weekday_of) + series_text(rule)
    if isinstance(rule, Yearly):
        return "yearly " + number_text(rule.month) + " " + number_text(rule.date) + series_text(rule)
    if isinstance(rule, Days):
        return "days" + days_text(rule.days)
    if isinstance(rule, Where):
        raise NoText("a rule of a function has no text")
    return None


def inner_text(rule):
    """The text of a rule within another one."""
    return "(" + rule_text(rule) + ")"


def changed_text(rule):
    """The text of a changed rule."""
    moved = []
    for pair in rule.moved:
        moved.extend(pair)
    left = "left" + days_text(rule.left)
    more = "more" + days_text(rule.more)
    goals = "moved" + days_text(moved)
    return " ".join(["changed", inner_text(rule.rule), left, more, goals])


def rule_text(rule):
    """The text of a rule."""
    simple = simple_text(rule)
    if simple is not None:
        return simple
    if isinstance(rule, Either):
        return " ".join(["either", inner_text(rule.one), inner_text(rule.other)])
    if isinstance(rule, Both):
        return " ".join(["both", inner_text(rule.one), inner_text(rule.other)])
    if isinstance(rule, But):
        return " ".join(["but", inner_text(rule.one), inner_text(rule.other)])
    if isinstance(rule, Within):
        return " ".join(["within", number_text(rule.begin), number_text(rule.end), inner_text(rule.rule)])
    if isinstance(rule, Shifted):
        return " ".join(["shifted", number_text(rule.many), inner_text(rule.rule)])
    if isinstance(rule, Changed):
        return changed_text(rule)
    return "never"


class Words:
    """The words of a rule's text, and how many of them are read."""

    def __init__(self, text):
        # Each bracket becomes a word; where a blank is missing or too many,
        # a word comes out that is empty or still has a bracket in it, and is refused as any wrong word.
        self.words = text.replace("(", "( ").replace(")", " )").split(" ")
        self.place = 0

    def ahead(self):
        """The next word, or None behind the last one."""
        return self.words[self.place] if self.place < len(self.words) else None

    def pull(self):
        """The next word, read now."""
        word = self.ahead()
        if word is None:
            raise NoText("the text of the rule ends too early")
        self.place += 1
        return word

    def pull_this(self, wanted):
        """Read the next word, which is to be this one."""
        if self.pull() != wanted:
            raise NoText("the text of the rule has another word than told")

    def pull_until(self, ends):
        """The words up to one of these, read now, but not that one."""
        found = []
        while self.ahead() is not None and self.ahead() not in ends:
            found.append(self.pull())
        return found

    def pull_plain(self, least, most):
        """The words up to the rule's end, from least to most of them, read now."""
        found = self.pull_until(("(", ")"))
        if len(found) < least or len(found) > most:
            raise NoText("the rule has more or fewer parts than told")
        return found


def check_deep(words):
    """Refuse words with brackets within one another so deep that reading them might fail."""
    deep = 0
    for word in words:
        if word == "(":
            deep += 1
        elif word == ")":
            deep -= 1
        if deep > DEEPEST:
            raise NoText("the rule has too many others within one another")


def read_days(texts):
    """The days of texts, a tuple."""
    return tuple([read_day(text) for text in texts])


def first_of(parts, place):
    """The first among the parts of a rule, 0 where it is left out."""
    return read_day(parts[place]) if place < len(parts) else 0


def every_of(parts, place):
    """The every among the parts of a rule, 1 where it is left out."""
    return read_number(parts[place]) if place < len(parts) else 1


def read_every(words):
    parts = words.pull_plain(1, 2)
    return Every(read_number(parts[0]), first_of(parts, 1))


def read_weekly(words):
    parts = words.pull_plain(1, 3)
    return Weekly(read_number(parts[0]), first_of(parts, 1), every_of(parts, 2))


def read_monthly(words):
    parts = words.pull_plain(1, 3)
    return Monthly(read_number(parts[0]), first_of(parts, 1), every_of(parts, 2))


def read_nth(words):
    parts = words.pull_plain(2, 4)
    return Nth(read_number(parts[0]), read_number(parts[1]), first_of(parts, 2), every_of(parts, 3))


def read_yearly(words):
    parts = words.pull_plain(2, 4)
    return Yearly(read_number(parts[0]), read_number(parts[1]), first_of(parts, 2), every_of(parts, 3))


def read_just(words):
    days = read_days(words.pull_until(("(", ")")))
    rule = Days(days)
    if rule.days != days:
        raise NoText("the days don't rise, or one is there twice")
    return rule


def read_inner(words):
    """The rule within another one, in its brackets."""
    words.pull_this("(")
    rule = read_words(words)
    words.pull_this(")")
    return rule


def read_either(words):
    one = read_inner(words)
    return Either(one, read_inner(words))


def read_both(words):
    one = read_inner(words)
    return Both(one, read_inner(words))


def read_but(words):
    one = read_inner(words)
    return But(one, read_inner(words))


def read_within(words):
    begin = read_number(words.pull())
    end = read_number(words.pull())
    return Within(read_inner(words), begin, end)


def read_shifted(words):
    many = read_number(words.pull())
    return Shifted(read_inner(words), many)


def read_changed(words):
    rule = read_inner(words)
    words.pull_this("left")
    left = read_days(words.pull_until(("more",)))
    words.pull_this("more")
    more = read_days(words.pull_until(("moved",)))
    words.pull_this("moved")
    days = read_days(words.pull_until(("(", ")")))
    if len(days) % 2 == 1:
        raise NoText("the last pair of days is half a pair")
    moved = [(days[place], days[place + 1]) for place in range(0, len(days), 2)]
    return Changed(rule, left, more, tuple(moved))


def read_never(words):
    return Rule()


READERS = {
    "every": read_every,
    "weekly": read_weekly,
    "monthly": read_monthly,
    "nth": read_nth,
    "yearly": read_yearly,
    "days": read_just,
    "either": read_either,
    "both": read_both,
    "but": read_but,
    "within": read_within,
    "shifted": read_shifted,
    "changed": read_changed,
    "never": read_never,
}


def read_words(words):
    """The rule that begins with the next word."""
    reader = READERS.get(words.pull())
    if reader is None:
        raise NoText("this word begins no rule")
    return reader(words)


def read_rule(text):
    """The rule of a text."""
    words = Words(text)
    check_deep(words.words)
    try:
        rule = read_words(words)
    except NoRule:
        raise NoText("the text is of a rule that is refused") from None
    if words.ahead() is not None:
        raise NoText("the text goes on behind the rule")
    return rule
