"""A largest pairing of a net with the places that show it, and the places that some largest pairing leaves alone."""

from rollcall.growing import even_places, grown, odd_places


def grown_without_worries(n, links):
    return grown(n, [(u, v, 0) for u, v in links])


def largest(n, links):
    # Where the trees end, links lead out of even bodies to odd places alone: without these each even body is a part.
    web = grown_without_worries(n, links)
    return (web.pairing(), odd_places(web))


def left_alone(n, links):
    # From a root, pairs can be changed along its tree to any place of an even body, which is alone then.
    return even_places(grown_without_worries(n, links))
