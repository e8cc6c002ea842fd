"""What counts as a whole number, a list and a tuple, for all modules."""


def is_whole(thing):
    """Whether it is a whole number, of anything."""
    # Python's truths are ints as well, but no whole numbers here.
    return isinstance(thing, int) and not isinstance(thing, bool)


def is_place(thing, many):
    """Whether it is a place, from 0, of so many, of anything."""
    return is_whole(thing) and 0 <= thing < many


def is_listed(thing):
    """Whether it may stand where a list is told to be handed in, of anything."""
    return isinstance(thing, (list, tuple))


def is_tuple_of(thing, many):
    """Whether it is a tuple of so many, of anything."""
    return isinstance(thing, tuple) and len(thing) == many
