"""Redirections: what lists of them do to every table, and which lists do the same."""

from fdwires.checks import DESCRIPTORS, DIGITS, is_list, is_name
from fdwires.errors import FailingWords, InvalidRedirection
from fdwires.tables import check_table, table_behind

MOST_WORDS = 40
# Ten different ends, so that a table of them shows for each number where its end comes from.
DIFFERENT_ENDS = ("a", "b", "c", "d", "e", "f", "g", "h", "i", "j")


def redirection_step(value):
    """The copy, close or open step that a redirection does, None if a value is no redirection."""
    if not isinstance(value, str) or len(value) < 3 or value[0] not in DIGITS:
        return None
    number = int(value[0])
    sign = value[1]
    rest = value[2:]
    if sign in ("<", ">") and is_name(rest):
        return ("open", number, rest)
    if sign == ">" and rest == "&-":
        return ("close", number)
    if sign == ">" and len(rest) == 2 and rest[0] == "&" and rest[1] in DIGITS:
        return ("copy", int(rest[1]), number)
    return None


def check_words(value):
    """Raises an error if a value is no words."""
    if not is_list(value) or len(value) > MOST_WORDS:
        raise InvalidRedirection(None)
    for index, word in enumerate(value):
        if redirection_step(word) is None:
            raise InvalidRedirection(index)


def run_words(words, table):
    """What words do to a table of any ends: the table behind them, the openings, and the copies.

    The copies are pairs of a number and the end that it had when it was copied; the words go on behind a copy of a
    free number, so that the caller can tell whether they fail.
    """
    ends = list(table)
    openings = []
    copies = []
    for word in words:
        step = redirection_step(word)
        fresh = ()
        if step[0] == "open":
            fresh = (("new", len(openings)),)
            openings.append((word[1], step[2]))
        if step[0] == "copy":
            copies.append((step[1], ends[step[1]]))
        ends = table_behind(ends, step, fresh)
    return (ends, openings, copies)


def form_of(words):
    """The normal form of any number of words."""
    ends, openings, copies = run_words(words, [("old", number) for number in range(DESCRIPTORS)])
    sources = [source for _, source in copies]
    if None in sources:
        return None
    needs = sorted({source[1] for source in sources if source[0] == "old"})
    return (tuple(needs), tuple(openings), tuple(ends))


def normal_form(words):
    """The normal form of words, None if they fail on every table."""
    check_words(words)
    return form_of(words)


def composed(words, other_words):
    """The normal form of words with other words behind them."""
    check_words(words)
    check_words(other_words)
    return form_of(words + other_words)


def same_words(words, other_words):
    """Whether words and other words do the same on all tables."""
    check_words(words)
    check_words(other_words)
    return form_of(words) == form_of(other_words)


def applied(words, table):
    """The table behind words."""
    check_words(words)
    check_table(table)
    ends, _, copies = run_words(words, table)
    for number, end in copies:
        if end is None:
            raise FailingWords(number)
    return ends


def parting_table(words, other_words):
    """A table on which words and other words do not do the same, None if there is none."""
    check_words(words)
    check_words(other_words)
    form = form_of(words)
    other = form_of(other_words)
    if form == other:
        return None
    table = list(DIFFERENT_ENDS)
    # With all numbers taken, words fail only if they always do, and all openings and sources can be told apart.
    if form is not None and other is not None and form[0] != other[0]:
        table[needed_by_one(form[0], other[0])] = None
    return table


def needed_by_one(needs, other_needs):
    """The least number that is in only one of two different tuples of needs."""
    return sorted(set(needs) ^ set(other_needs))[0]
