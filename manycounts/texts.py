"""The texts of webs, told and read."""

from manycounts.errors import NoText
from manycounts.webs import made_web

FIGURES = "0123456789"


def web_text(web):
    """The text of a web, as in 3: 0-1 0-1 2-2."""
    points = web[0]
    return f"{points}:" + "".join([f" {a}-{b}" for a, b in web[1]])


def read_web(text):
    """The web of a text, made or refused as any other once the text has its form."""
    if not isinstance(text, str):
        raise NoText("this is no text")
    halves = text.split(":")
    if len(halves) != 2:
        raise NoText("there is not one colon")
    points = read_number(halves[0])
    words = halves[1].split(" ")
    if words[0] != "":
        raise NoText("behind the colon stands no blank")
    # All words are read ahead of the making, for NoText goes ahead of its refusals.
    ties = [read_tie(word) for word in words[1:]]
    return made_web(points, ties)


def read_tie(word):
    """The two numbers of a word as in 0-1."""
    halves = word.split("-")
    if len(halves) != 2:
        raise NoText("a tie is no two numbers")
    return (read_number(halves[0]), read_number(halves[1]))


def read_number(word):
    """The number of a word of one or two figures, no 0 ahead of another figure."""
    if len(word) not in (1, 2) or not all([sign in FIGURES for sign in word]):
        raise NoText("a number has not one or two figures")
    if len(word) == 2 and word[0] == "0":
        raise NoText("a number has a 0 ahead of another figure")
    return int(word)
