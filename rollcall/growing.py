"""Trees that grow in a web from the bodies that are alone, till the pairing is a best full one or none is full."""

from rollcall.web import EVEN, FREE, ODD, Web, body_number, joint_on


def begin_trees(web):
    for body in web.outermost():
        body.mark = EVEN if web.mates[body.tip] is None else FREE
        body.came = None


def tightest_link(web):
    # (rise, u, v): by how much even prices may rise till this link has no slack; None where no link bounds them.
    told = None
    for u, v, twice in web.links:
        one = web.outer[u]
        other = web.outer[v]
        rate = one.mark + other.mark
        if rate > 0 and one != other:
            # Slacks between even bodies are even numbers: all sums in trees are alike odd or even.
            rise = (twice - web.sums[u] - web.sums[v]) // rate
            if told is None or rise < told[0]:
                told = (rise, u, v)
            if rise == 0:
                return told
    return told


def cheapest_odd_ring(web):
    odd = [body for body in web.outermost() if body.mark == ODD and body.inner]
    return min(odd, key=lambda ring: ring.price, default=None)


def lift_all(web, rise):
    if rise == 0:
        return
    for body in web.outermost():
        if body.mark != FREE:
            web.lift(body, body.mark * rise)


def mark_odd(body, came):
    body.mark = ODD
    body.came = came


def grow(web, ahead, place):
    # Who is in no tree is not alone, so the tree goes on by the pair.
    body = web.outer[place]
    mark_odd(body, (ahead, place))
    behind = web.outer[web.mates[body.tip]]
    behind.mark = EVEN


def step_up(web, body):
    # The link (place here, place there) from a tree's body to the one ahead of it; None at the root.
    if body.mark == ODD:
        return (body.came[1], body.came[0])
    if web.mates[body.tip] is None:
        return None
    return (body.tip, web.mates[body.tip])


def links_to_root(web, place):
    told = []
    link = step_up(web, web.outer[place])
    while link is not None:
        told.append(link)
        link = step_up(web, web.outer[link[1]])
    return told


def root_of(web, place, way):
    return web.outer[way[-1][1]] if way else web.outer[place]


def change_pairs(web, place):
    # Each pair on the way to the root moves one link up, so that the place, in an even body, is there for a new mate.
    body = web.outer[place]
    left = web.mates[body.tip]
    web.lead_out(body, place)
    while left is not None:
        odd = web.outer[left]
        link = odd.came
        body = web.outer[link[0]]
        left = web.mates[body.tip]
        web.lead_out(body, link[0])
        web.lead_out(odd, link[1])
        web.tie(link[0], link[1])


def close_ring(web, one, other, link):
    # Up the one way to the body where both meet, down the other way, and back by the link between their begins.
    down = [(high, low) for low, high in reversed(other)]
    joints = one + down + [(link[1], link[0])]
    inner = [web.outer[joint[0]] for joint in joints]
    top = inner[len(one)]
    ring = web.put_together(inner, joints, top.tip)
    ring.mark = EVEN


def join_bodies(web, u, v):
    one = links_to_root(web, u)
    other = links_to_root(web, v)
    if root_of(web, u, one) != root_of(web, v, other):
        change_pairs(web, u)
        change_pairs(web, v)
        web.tie(u, v)
        begin_trees(web)
        return
    while one and other and one[-1] == other[-1]:
        one.pop()
        other.pop()
    close_ring(web, one, other, (u, v))


def use_link(web, u, v):
    if web.outer[v].mark == FREE:
        grow(web, u, v)
    elif web.outer[u].mark == FREE:
        grow(web, v, u)
    else:
        join_bodies(web, u, v)


def open_ring(web, ring):
    # From where the tree came in, the bodies on the even way along the ring to its tip's body stay in the tree.
    web.take_apart(ring)
    for body in ring.inner:
        body.mark = FREE
        body.came = None
    count = len(ring.inner)
    number = body_number(ring, ring.came[1])
    last = body_number(ring, ring.tip)
    way = 1 if (last - number) % count % 2 == 0 else -1
    mark_odd(ring.inner[number], ring.came)
    while number != last:
        body = ring.inner[(number + way) % count]
        body.mark = EVEN
        came = joint_on(ring, number + way, way)
        number = (number + 2 * way) % count
        mark_odd(ring.inner[number], came)


def go_on(web):
    # One step of the trees; False where nothing bounds the rise, or nobody is alone any more.
    link = tightest_link(web)
    ring = cheapest_odd_ring(web)
    if ring is not None and (link is None or ring.price < link[0]):
        lift_all(web, ring.price)
        open_ring(web, ring)
        return True
    if link is None:
        return False
    lift_all(web, link[0])
    use_link(web, link[1], link[2])
    return True


def grown(n, worries):
    # The way in: the web that all of this changes is made here, out of what is handed in.
    web = Web(n, worries)
    begin_trees(web)
    while go_on(web):
        pass
    return web


def odd_places(web):
    return [place for place, body in enumerate(web.outer) if body.mark == ODD]


def even_places(web):
    return [place for place, body in enumerate(web.outer) if body.mark == EVEN]
