"""Whether a map goes through another one: by which map, or what shows that it doesn't."""

from mapweave.errors import NoFit
from mapweave.weaving import first_places


def before(one, other):
    if one[0] != other[0]:
        raise NoFit("the two maps have not the same to")
    places = first_places(other[1])
    for k, thing in enumerate(one[1]):
        if thing not in places:
            return ("thing", k)
    return ("map", (len(other[1]), tuple([places[thing] for thing in one[1]])))


def behind(one, other):
    if len(one[1]) != len(other[1]):
        raise NoFit("the two maps are not of as many things")
    places = first_places(other[1])
    for late, thing in enumerate(other[1]):
        early = places[thing]
        if one[1][early] != one[1][late]:
            return ("things", early, late)
    if one[0] == 0 and other[0] > 0:
        return ("nowhere",)
    # What other leads nothing to may be led anywhere; past the case above one has a thing 0 wherever it is needed.
    row = [one[1][places[thing]] if thing in places else 0 for thing in range(other[0])]
    return ("map", (one[0], tuple(row)))
