"""Whether a map goes through another one: by which map, or what shows that it doesn't."""

from mapweave.fitting import need_as_many, need_same_to
from mapweave.weaving import first_places


def before(one, other):
    need_same_to(one, other)
    places = first_places(other[1])
    for k, thing in enumerate(one[1]):
        if thing not in places:
            return ("thing", k)
    return ("map", (len(other[1]), tuple([places[thing] for thing in one[1]])))


def behind(one, other):
    need_as_many(one, other)
    places = first_places(other[1])
    for late, thing in enumerate(other[1]):
        early = places[thing]
        if one[1][early] != one[1][late]:
            return ("things", early, late)
    if one[0] == 0 and other[0] > 0:
        return ("nowhere",)
    # What other leads nothing to may be led anywhere; past the case above one has a thing 0 wherever it is needed.
    row = [one[1][places[thing]] if thing in places else 0 for thing in range(other[0])]
    return ("map", (one[0], tuple(row)))
