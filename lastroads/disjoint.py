"""How many routes share no road: a greatest flow in which each road carries one route.

A direction is kept for each road: 1 if a route goes from end_a to end_b,
-1 if one goes from end_b to end_a, 0 if none goes over it.
"""


# A further route may go against one that is there: the two then swap what lies
# beyond the road, and neither goes over it any more.
def free_end(road, direction, place):
    if road.end_a == place and direction < 1:
        return road.end_b
    if road.end_b == place and direction > -1:
        return road.end_a
    return None


# For each place that a further route can come to, the index of the road that it
# comes over, or None at a store.
def entries(stores, roads, directions):
    entered = {}
    waiting = [place for place in range(len(stores)) if stores[place] == 1]
    for store in waiting:
        entered[store] = None
    while waiting:
        here = waiting.pop()
        for index in range(len(roads)):
            there = free_end(roads[index], directions[index], here)
            if there is not None and there not in entered:
                entered[there] = index
                waiting.append(there)
    return entered


def add_route(roads, directions, entered, place):
    here = place
    while entered[here] is not None:
        index = entered[here]
        if roads[index].end_b == here:
            directions[index] += 1
            here = roads[index].end_a
        else:
            directions[index] -= 1
            here = roads[index].end_b


# The place must not have a store: there the empty route could be added for ever.
def count_disjoint_routes(stores, roads, place):
    directions = [0] * len(roads)
    count = 0
    entered = entries(stores, roads, directions)
    while place in entered:
        add_route(roads, directions, entered, place)
        count += 1
        entered = entries(stores, roads, directions)
    return count
