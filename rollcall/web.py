"""A web over a net: its bodies, which are places and odd rings of bodies put together, their prices and pairs."""

# A body's mark is also the rate at which its price changes while trees grow.
EVEN = 1
FREE = 0
ODD = -1


class Body:

    # Of a ring, joints[k] is the link (place, place) from inner[k] to the body behind it; behind the last is the first.
    def __init__(self, places, tip, inner, joints):
        self.places = sorted(places)
        # The one place that has no mate within the body: its pair goes out of the body, or it is alone.
        self.tip = tip
        self.inner = list(inner)
        self.joints = list(joints)
        self.price = 0
        self.mark = FREE
        # Of an odd body the link by which its tree came in: the place in the even body ahead, the place in this one.
        self.came = None


def body_number(ring, place):
    return [number for number, body in enumerate(ring.inner) if place in body.places][0]


def joint_on(ring, number, way):
    # The link from the body of this number to the one behind it (way 1) or ahead of it (way -1).
    count = len(ring.inner)
    if way == 1:
        return ring.joints[number % count]
    link = ring.joints[(number - 1) % count]
    return (link[1], link[0])


class Web:

    def __init__(self, n, worries):
        least = min([worry for u, v, worry in worries], default=0)
        self.links = [(u, v, 2 * worry) for u, v, worry in worries]
        self.singles = [Body([place], place, [], []) for place in range(n)]
        for body in self.singles:
            body.price = least
        # For each place: the outermost body in which it lies, the prices of all its bodies together, and its mate.
        self.outer = list(self.singles)
        self.sums = [least for place in range(n)]
        self.mates = [None for place in range(n)]

    def outermost(self):
        return [body for place, body in enumerate(self.outer) if body.places[0] == place]

    def lift(self, body, rise):
        body.price += rise
        for place in body.places:
            self.sums[place] += rise

    def lead_out(self, body, place):
        # All bodies of a ring but the one with the tip are paired along it, and so within each of them.
        body.tip = place
        if not body.inner:
            return
        count = len(body.inner)
        begin = body_number(body, place)
        self.lead_out(body.inner[begin], place)
        for number in range(begin + 1, begin + count, 2):
            link = body.joints[number % count]
            self.lead_out(body.inner[number % count], link[0])
            self.lead_out(body.inner[(number + 1) % count], link[1])
            self.tie(link[0], link[1])

    def tie(self, one, other):
        self.mates[one] = other
        self.mates[other] = one

    def put_together(self, inner, joints, tip):
        places = []
        for body in inner:
            places.extend(body.places)
        ring = Body(places, tip, inner, joints)
        for place in places:
            self.outer[place] = ring
        return ring

    def take_apart(self, ring):
        # No sum changes: only a ring of the price 0 is taken apart.
        for body in ring.inner:
            for place in body.places:
                self.outer[place] = body

    def pairing(self):
        return [(u, v) for u, v in enumerate(self.mates) if v is not None and u < v]

    def prices(self):
        return [body.price for body in self.singles]

    def groups(self):
        told = []
        waiting = self.outermost()
        while waiting:
            body = waiting.pop()
            waiting.extend(body.inner)
            if body.inner and body.price > 0:
                told.append((tuple(body.places), body.price))
        return told
