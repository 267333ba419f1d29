"""What has to fit before something is told of maps; NoFit where it doesn't."""

from mapweave.errors import NoFit


def need_same_to(one, other):
    if one[0] != other[0]:
        raise NoFit("the two maps have not the same to")


def need_as_many(one, other):
    if len(one[1]) != len(other[1]):
        raise NoFit("the two maps are not of as many things")


def need_into_itself(one):
    if len(one[1]) != one[0] or one[0] < 1:
        raise NoFit("the map has not as many things as its to, or none")
