"""What is a whole number, and what has each of some once: asked of anything that is handed in."""


def is_whole(thing):
    """Whether thing is a whole number."""
    # True and False are ints to Python, but no whole numbers here.
    return isinstance(thing, int) and not isinstance(thing, bool)


def is_whole_within(thing, least, greatest):
    """Whether thing is a whole number from least to greatest."""
    return is_whole(thing) and least <= thing <= greatest


def is_each_once(thing, many):
    """Whether thing is a list or a tuple of the whole numbers from 0 to many - 1, each once."""
    if not isinstance(thing, (list, tuple)) or not all([is_whole(number) for number in thing]):
        return False
    return sorted(thing) == list(range(many))
