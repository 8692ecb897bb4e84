"""A best full pairing with the prices that show it, or the places that show that there is no full one."""

from rollcall.growing import grown, odd_places


def best(n, worries):
    web = grown(n, worries)
    if None in web.mates:
        return ("hindered", odd_places(web))
    return ("paired", web.pairing(), web.prices(), web.groups())
