"""Maps of things into themselves: done so often, their rings and tails, and the same with other names."""

from mapweave.fitting import need_into_itself
from mapweave.weaving import same, then, turned
from mapweave.writing import written


def often(one, times):
    need_into_itself(one)
    # Times may have thirty figures, so the map is doubled and not done one by one.
    told = same(one[0])
    doubled = one
    left = times
    while left > 0:
        if left % 2 == 1:
            told = then(told, doubled)
        doubled = then(doubled, doubled)
        left = left // 2
    return told


def trail(one, k):
    places = {}
    thing = k
    while thing not in places:
        places[thing] = len(places)
        thing = one[1][thing]
    # From the place of the thing that comes twice on, the things are a ring.
    return (list(places), places[thing])


def begun_at(things, place):
    return things[place:] + things[:place]


def ring(one, k):
    need_into_itself(one)
    found = trail(one, k)
    things = found[0][found[1]:]
    return tuple(begun_at(things, things.index(min(things))))


def tail(one, k):
    need_into_itself(one)
    return trail(one, k)[1]


def all_rings(one):
    return sorted(set([ring(one, k) for k in range(one[0])]))


def common_multiple(number, other):
    multiple = number
    while multiple % other > 0:
        multiple = multiple + number
    return multiple


def beat(one):
    need_into_itself(one)
    when = max([tail(one, k) for k in range(one[0])])
    again = 1
    for things in all_rings(one):
        again = common_multiple(again, len(things))
    return (when, again)


def all_twigs(one):
    # A ring is told by itself, so only what lies on no ring is a twig of the thing that it is led to.
    twigs = [[] for thing in range(one[0])]
    for k, thing in enumerate(one[1]):
        if tail(one, k) > 0:
            twigs[thing].append(k)
    return twigs


def tree_texts(one, twigs):
    texts = [""] * one[0]
    # A twig has a longer tail than the thing that it is led to, so its text is there when it is needed.
    for thing in sorted(range(one[0]), key=lambda k: tail(one, k), reverse=True):
        texts[thing] = "(" + "".join(sorted([texts[twig] for twig in twigs[thing]])) + ")"
    return texts


def plain_rings(one, texts):
    def texts_of(things):
        return [texts[thing] for thing in things]
    # Texts don't hang on names, so neither does where a ring begins by them, nor the order of the rings.
    begun = []
    for things in all_rings(one):
        begun.append(min([begun_at(things, place) for place in range(len(things))], key=texts_of))
    return sorted(begun, key=texts_of)


def plain_names(one):
    twigs = all_twigs(one)
    texts = tree_texts(one, twigs)
    order = []
    for things in plain_rings(one, texts):
        order.extend(things)
    # Each thing in its turn is followed up by its twigs in the order of their texts, which ends with all things.
    turn = 0
    while turn < len(order):
        order.extend(sorted(twigs[order[turn]], key=lambda twig: texts[twig]))
        turn = turn + 1
    return (one[0], tuple(order))


def plain(one):
    need_into_itself(one)
    names = plain_names(one)
    return written(then(then(names, one), turned(names)))


def renaming(one, other):
    # Both plain texts are asked for, so plain refuses whichever of the two is not into itself.
    if plain(one) != plain(other):
        return None
    # Both are the same under their plain names, so what bears a plain name in one goes to what bears it in other.
    return (then(turned(plain_names(one)), plain_names(other))[1],)
