"""Reading: numbers and terms that are part of a text."""

from termpaths.base.terms import LETTERS, MAX_HEIGHT, is_name, is_term
from termpaths.errors import ParseError

DIGITS = "0123456789"
MAX_DIGITS = 4


def number_of(text):
    """Return the number that a text is."""
    number = _number_or_none(text)
    if number is None:
        raise ParseError("not a number of at most four digits")
    return number


def term_of(text):
    """Return the term that a text is."""
    term, end = _term_at(text, 0, MAX_HEIGHT)
    if end != len(text) or not is_term(term):
        raise ParseError("not the text of a term")
    return term


def _number_or_none(text):
    if not 1 <= len(text) <= MAX_DIGITS or not all([sign in DIGITS for sign in text]):
        return None
    return None if len(text) > 1 and text[0] == "0" else int(text)


def _term_at(text, begin, height):
    """Return what stands as a term of at most this height at a place, and the place behind it; or None and -1."""
    if text[begin:begin + 1] == "?":
        end = _end_of_signs(text, begin + 1, DIGITS)
        return _number_or_none(text[begin + 1:end]), end
    end = _end_of_signs(text, begin, LETTERS)
    name = text[begin:end]
    if not is_name(name):
        return None, -1
    if text[end:end + 1] != "(":
        return name, end
    if text[end + 1:end + 2] == ")":
        return (name,), end + 2
    return _operator_at(text, name, end + 1, height)


def _operator_at(text, name, begin, height):
    """Return the term of an operator whose terms begin at a place, and the place behind it; or None and -1."""
    # Nothing below the greatest height is read, so a text that is nested too deep costs no more than a term.
    if height == 0:
        return None, -1
    terms = []
    while True:
        term, begin = _term_at(text, begin, height - 1)
        if term is None:
            return None, -1
        terms.append(term)
        if text[begin:begin + 1] == ")":
            return (name, *terms), begin + 1
        if text[begin:begin + 2] != ", ":
            return None, -1
        begin = begin + 2


def _end_of_signs(text, begin, signs):
    """Return the first place from one on at which none of some signs stands."""
    end = begin
    while end < len(text) and text[end] in signs:
        end += 1
    return end
