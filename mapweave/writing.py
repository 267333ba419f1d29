"""Maps written as texts."""


def written(one):
    # A blank stands ahead of each number, not between them, so a map of no things ends with its colon.
    row = "".join([f" {thing}" for thing in one[1]])
    return str(one[0]) + ":" + row
