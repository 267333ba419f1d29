"""All maps of a size, and how many there are of each kind."""


def all_maps(many, to):
    rows = [()]
    for k in range(many):
        # Each row gives way to its longer ones, the least first, so the rows stay in their order.
        longer = []
        for row in rows:
            longer.extend([row + (thing,) for thing in range(to)])
        rows = longer
    return tuple([(to, row) for row in rows])


def count_any(many, to):
    told = 1
    for k in range(many):
        told = told * to
    return told


def count_parts(many, to):
    told = 1
    for k in range(many):
        # With more things than to the factor 0 comes, and there it stays.
        told = told * (to - k)
    return told


def count_all(many, to):
    # Of each to up to the one that is asked for, how many maps of the things so far come to all. A thing more is led
    # to any of the to things, and those so far come to all of them, or to all but this one.
    ways = [1] + [0] * to
    for k in range(many):
        ways = [0] + [less * (ways[less] + ways[less - 1]) for less in range(1, to + 1)]
    return ways[to]


def count(many, to, kind):
    if kind == "any":
        return count_any(many, to)
    if kind == "parts":
        return count_parts(many, to)
    return count_all(many, to)


def count_still(many):
    # Such a map leads each of some things to itself, and all others to one of these.
    told = 0
    for still in range(many + 1):
        choices = count_parts(still, many) // count_parts(still, still)
        told = told + choices * count_any(many - still, still)
    return told
