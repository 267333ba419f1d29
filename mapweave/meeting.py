"""Two maps that meet, join, agree or are made to agree, and two maps made one."""

from mapweave.fitting import need_as_many, need_same_to
from mapweave.weaving import split


def met(one, other):
    need_same_to(one, other)
    firsts = []
    seconds = []
    for k, thing in enumerate(one[1]):
        partners = [place for place, second in enumerate(other[1]) if second == thing]
        firsts.extend([k] * len(partners))
        seconds.extend(partners)
    return ((len(one[1]), tuple(firsts)), (len(other[1]), tuple(seconds)))


def agreed(one, other):
    need_as_many(one, other)
    need_same_to(one, other)
    return (len(one[1]), tuple([k for k, thing in enumerate(one[1]) if thing == other[1][k]]))


def counted_as_one(many, pairs):
    # Whatever is counted as one bears the least of its things, so that split numbers it by its first thing.
    leasts = list(range(many))
    for k, thing in pairs:
        kept = min(leasts[k], leasts[thing])
        lost = max(leasts[k], leasts[thing])
        leasts = [kept if least == lost else least for least in leasts]
    return split((many, tuple(leasts)))[0]


def joined(one, other):
    need_as_many(one, other)
    # The things of other are counted on behind those of one.
    pairs = [(first, one[0] + second) for first, second in zip(one[1], other[1])]
    both = counted_as_one(one[0] + other[0], pairs)
    return ((both[0], both[1][:one[0]]), (both[0], both[1][one[0]:]))


def alike_made(one, other):
    need_as_many(one, other)
    need_same_to(one, other)
    return counted_as_one(one[0], list(zip(one[1], other[1])))


def paired(first, second):
    need_as_many(first, second)
    row = [thing * second[0] + second[1][k] for k, thing in enumerate(first[1])]
    return (first[0] * second[0], tuple(row))


def stacked(first, second):
    need_same_to(first, second)
    return (first[0], first[1] + second[1])
