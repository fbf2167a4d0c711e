"""Travel times and fastest routes from the stores over some roads."""

from lastroads.instance import other_end


# True if going from start to end makes the time of end smaller.
def shorten(times, start, end, time):
    if times[start] is None:
        return False
    offered = times[start] + time
    if times[end] is not None and times[end] <= offered:
        return False
    times[end] = offered
    return True


# A place that isn't reachable has the time None.
def times_to_places(stores, roads):
    times = [0 if present == 1 else None for present in stores]
    changed = True
    while changed:
        changed = False
        for road in roads:
            if shorten(times, road.end_a, road.end_b, road.time):
                changed = True
            if shorten(times, road.end_b, road.end_a, road.time):
                changed = True
    return times


# None if some place isn't reachable.
def greatest_time(stores, roads):
    times = times_to_places(stores, roads)
    if None in times:
        return None
    return max(times)


# The roads stand in the order of their numbers, so the first that fits has the
# smallest one. What a road joins to a reachable place has a time itself.
def place_before(times, roads, place):
    for road in roads:
        there = other_end(road, place)
        if there is not None and times[there] + road.time == times[place]:
            return there
    return None


# The place has to be reachable: else there is no step back from it.
def places_on_fastest_route(stores, roads, place):
    times = times_to_places(stores, roads)
    backwards = [place]
    while stores[backwards[-1]] == 0:
        backwards.append(place_before(times, roads, backwards[-1]))
    return list(reversed(backwards))
