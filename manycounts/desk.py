"""A desk that keeps webs by names, is told rows, and answers each with a text."""

from manycounts.colours import colour_count
from manycounts.errors import NoName, NoRow, NoSuch
from manycounts.flows import flow_count
from manycounts.gluing import laid_at, laid_beside, turned_over
from manycounts.minors import drawn_together, left_out
from manycounts.polys import worth_at
from manycounts.polytexts import MOST_FIGURES, poly_text
from manycounts.tables import by_picks
from manycounts.texts import FIGURES, read_web, web_text
from manycounts.trees import all_trees
from manycounts.webs import refuse_no_tie_of

LETTERS = "abcdefghijklmnopqrstuvwxyz"
MOST_LETTERS = 8

# What stands behind the first word of a row: a new name, one by which a web is kept, a number, a word
# of those that are counted, or a text to the row's end.
FORMS = {
    "web": ("new", "text"),
    "out": ("new", "kept", "number"),
    "draw": ("new", "kept", "number"),
    "beside": ("new", "kept", "kept"),
    "join": ("new", "kept", "number", "kept", "number"),
    "turn": ("new", "kept", "number", "number"),
    "show": ("kept",),
    "poly": ("kept",),
    "worth": ("kept", "number", "number"),
    "same": ("kept", "kept"),
    "trees": ("kept",),
    "count": ("kept", "counted"),
    "colours": ("kept", "number"),
    "flows": ("kept", "number"),
}

# There are as many as the worth of the polynomial at these numbers.
COUNTED = {
    "picks": (2, 2),
    "trees": (1, 1),
    "woods": (2, 1),
    "holders": (1, 2),
    "ringless": (2, 0),
    "sprung": (1, 0),
    "ringed": (0, 2),
    "scores": (2, 1),
}


class Desk:
    """Webs kept by names, and the answers to rows about them."""

    def __init__(self):
        self.webs = {}

    def say(self, row):
        """The answer to a row."""
        words = words_of(row)
        form = form_of(words)
        things = [self.thing_of(kind, word) for kind, word in zip(form, words[1:])]
        if form[0] != "new":
            return told_by(words[0], things)
        self.webs[things[0]] = made_by(words[0], things)
        return "ok"

    def thing_of(self, kind, word):
        """What a word stands for in a place of this kind: a name, a web, a number or a text."""
        if kind == "new" and not is_name(word):
            raise NoName(f"a name is not one to {MOST_LETTERS} small letters")
        # What is no name is none by which a web is kept either.
        if kind == "kept" and word not in self.webs:
            raise NoName("no web is kept by this name")
        if kind == "kept":
            return self.webs[word]
        return int(word) if kind == "number" else word


def words_of(row):
    """The words of a row, refused where it is none."""
    if not isinstance(row, str):
        raise NoRow("this is no text")
    words = row.split(" ")
    if words[0] not in FORMS:
        raise NoRow("no row begins with this word")
    if words[0] == "web":
        # What stands in the text is no matter of the row, blanks neither.
        words = row.split(" ", 2)
    form = form_of(words)
    if len(words) - 1 != len(form):
        raise NoRow("there is a word too many or too few")
    if not all([fits(kind, word) for kind, word in zip(form, words[1:])]):
        raise NoRow("a word has no signs, is no number, or is nothing that is counted")
    return words


def form_of(words):
    """What is wanted in each place behind the first of these words."""
    form = FORMS[words[0]]
    if words[0] == "turn":
        form = form + ("number",) * (len(words) - 1 - len(form))
    return form


def fits(kind, word):
    """Whether a word may stand in a place of this kind in a row, whatever is kept."""
    if kind == "number":
        return is_number(word)
    if kind == "counted":
        return word in COUNTED
    return kind == "text" or word != ""


def is_number(word):
    """Whether a word is a number in figures, with a - ahead where it is below 0."""
    figures = word[1:] if word.startswith("-") else word
    if not 1 <= len(figures) <= MOST_FIGURES or not all([sign in FIGURES for sign in figures]):
        return False
    return figures[0] != "0" or word == "0"


def is_name(word):
    """Whether a word is one to eight small letters."""
    return 1 <= len(word) <= MOST_LETTERS and all([sign in LETTERS for sign in word])


def made_by(first, things):
    """The web that a row makes, by its first word and what the others stand for."""
    if first == "web":
        return read_web(things[1])
    if first == "out":
        return left_out(things[1], things[2])
    if first == "draw":
        return drawn_together(things[1], things[2])
    if first == "beside":
        return laid_beside(things[1], things[2])
    if first == "join":
        return laid_at(things[1], things[2], things[3], things[4])
    return turned_over(things[1], pick_of(things[1], things[4:]), things[2], things[3])


def pick_of(web, numbers):
    """The pick of these ties in any order, refused at the first that is none or stood ahead already."""
    pick = []
    for k in numbers:
        refuse_no_tie_of(web, k)
        if k in pick:
            raise NoSuch("a tie stands twice")
        pick.append(k)
    return tuple(sorted(pick))


def told_by(first, things):
    """The answer to a row that makes no web, by its first word and what the others stand for."""
    web = things[0]
    if first == "show":
        return web_text(web)
    if first == "poly":
        return poly_text(by_picks(web))
    if first == "same":
        return "yes" if by_picks(web) == by_picks(things[1]) else "no"
    if first == "trees":
        return " ".join([tree_text(tree) for tree in all_trees(web)])
    if first == "colours":
        return str(colour_count(web, things[1]))
    if first == "flows":
        return str(flow_count(web, things[1]))
    at = COUNTED[things[1]] if first == "count" else (things[1], things[2])
    return str(worth_at(by_picks(web), at[0], at[1]))


def tree_text(tree):
    """The ties of a tree with a - between, none for the one without ties."""
    return "-".join([str(k) for k in tree]) if tree else "none"
