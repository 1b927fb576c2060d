"""The texts of polynomials, told and read."""

from manycounts.errors import NoText
from manycounts.texts import FIGURES

MOST_TERMS = 100
MOST_POWER = 60
MOST_FIGURES = 60


def poly_text(poly):
    """The text of a polynomial, as in 3 + -1*y + 2*x^2*y; that of nought is 0."""
    if not poly:
        return "0"
    return " + ".join([f"{times}" + power_text("x", i) + power_text("y", j) for i, j, times in poly])


def power_text(unknown, power):
    """What stands in a term's text for an unknown to a power."""
    if power == 0:
        return ""
    if power == 1:
        return f"*{unknown}"
    return f"*{unknown}^{power}"


def read_poly(text):
    """The polynomial of a text that is, sign by sign, the text of one."""
    if not isinstance(text, str):
        raise NoText("this is no text")
    if text == "0":
        return ()
    words = text.split(" + ")
    if len(words) > MOST_TERMS:
        raise NoText(f"there are more than {MOST_TERMS} terms")
    terms = [read_term(word) for word in words]
    for term, behind in zip(terms, terms[1:]):
        if term[:2] >= behind[:2]:
            raise NoText("the terms are out of order, or one stands twice")
    return tuple(terms)


def read_term(word):
    """The term (i, j, times) of a word as in 2*x^2*y."""
    factors = word.split("*")
    times = read_times(factors[0])
    powers = []
    at = 1
    for unknown in ("x", "y"):
        if at < len(factors) and factors[at].startswith(unknown):
            powers.append(read_power(factors[at][1:]))
            at = at + 1
        else:
            powers.append(0)
    if at < len(factors):
        raise NoText("behind the times stands something other than x, then y")
    return (powers[0], powers[1], times)


def read_times(word):
    """The times of a term, above 0 or, with a - ahead, below."""
    if word.startswith("-"):
        return -read_above_nought(word[1:])
    return read_above_nought(word)


def read_power(word):
    """The power that is told behind an unknown: 1 by nothing, a greater one as in ^2."""
    if word == "":
        return 1
    if not word.startswith("^"):
        raise NoText("behind x or y stands no power")
    power = read_above_nought(word[1:])
    if not 2 <= power <= MOST_POWER:
        raise NoText(f"a written power is not from 2 to {MOST_POWER}")
    return power


def read_above_nought(word):
    """The number above 0 of a word of figures, no 0 ahead."""
    # The length is asked first, for Python itself refuses to read a number of very many figures.
    if not 1 <= len(word) <= MOST_FIGURES:
        raise NoText(f"a number has not 1 to {MOST_FIGURES} figures")
    if word[0] == "0" or not all([sign in FIGURES for sign in word]):
        raise NoText("a number is not in figures, or begins with 0")
    return int(word)
