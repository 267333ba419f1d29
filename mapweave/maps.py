"""Which things are maps."""

MOST_THINGS = 9


def is_whole(thing):
    # Python counts truths among its ints; the document doesn't.
    return isinstance(thing, int) and not isinstance(thing, bool)


def is_whole_up_to(thing, greatest):
    return is_whole(thing) and 0 <= thing <= greatest


def is_row_into(thing, to):
    if not isinstance(thing, tuple) or len(thing) > MOST_THINGS:
        return False
    return all([is_whole_up_to(part, to - 1) for part in thing])


def is_map(thing):
    if not isinstance(thing, tuple) or len(thing) != 2:
        return False
    # The row's numbers are compared with to, so to has to be known as a whole number first.
    return is_whole_up_to(thing[0], MOST_THINGS) and is_row_into(thing[1], thing[0])
