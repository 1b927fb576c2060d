"""What is a whole number: asked of anything that is handed in."""


def is_whole(thing):
    """Whether thing is a whole number."""
    # True and False are ints to Python, but no whole numbers here.
    return isinstance(thing, int) and not isinstance(thing, bool)


def is_whole_within(thing, least, greatest):
    """Whether thing is a whole number from least to greatest."""
    return is_whole(thing) and least <= thing <= greatest
