"""Maps put together, and the parts that a map falls into."""

from mapweave.errors import NoFit, NoTurn


def first_places(row):
    places = {}
    for place, thing in enumerate(row):
        places.setdefault(thing, place)
    return places


def then(one, other):
    if one[0] != len(other[1]):
        raise NoFit("the to of the first map is not how many things the second leads")
    return (other[0], tuple([other[1][thing] for thing in one[1]]))


def same(many):
    return (many, tuple(range(many)))


def parts_all(one):
    return len(set(one[1])) == len(one[1])


def comes_to_all(one):
    return len(set(one[1])) == one[0]


def split(one):
    # The things between are those that something is led to, in their order: so the second row rises.
    between = sorted(set(one[1]))
    places = first_places(between)
    first = (len(between), tuple([places[thing] for thing in one[1]]))
    return (first, (one[0], tuple(between)))


def turned(one):
    if not parts_all(one) or not comes_to_all(one):
        raise NoTurn("the map does not part all, or does not come to all")
    places = first_places(one[1])
    return (len(one[1]), tuple([places[thing] for thing in range(one[0])]))
