"""The operations of the document, each of which answers a list of whole numbers.

Each one checks for its errors, in the document's order, before it changes anything.
"""

from lastroads.disjoint import count_disjoint_routes
from lastroads.instance import Instance, Road, usable_roads
from lastroads.reach import reached_places
from lastroads.refusals import AlreadySo, NotThere, OutOfRange, TooManyRoads, Undefined
from lastroads.travel import greatest_time, places_on_fastest_route, times_to_places

MOST_PLACES = 7
MOST_ROADS = 9
MOST_TIME = 20
MOST_REPAIR_COST = 50


def check_range(number, least, most):
    if number < least or number > most:
        raise OutOfRange()


def check_place(instance, place):
    if place >= instance.place_count:
        raise NotThere()


def find_road(instance, number):
    if number >= len(instance.roads):
        raise NotThere()
    return instance.roads[number]


def places_reached_now(instance):
    return reached_places(instance.stores, usable_roads(instance))


def times_now(instance):
    return times_to_places(instance.stores, usable_roads(instance))


# The time of a place that has to be there and to be reachable.
def find_time(instance, place):
    check_place(instance, place)
    time = times_now(instance)[place]
    if time is None:
        raise Undefined()
    return time


# It answers the new instance and no numbers: the caller keeps the instance.
def create(place_count):
    check_range(place_count, 1, MOST_PLACES)
    return Instance(place_count)


def add_road(instance, end_a, end_b, time, repair_cost):
    check_place(instance, end_a)
    check_place(instance, end_b)
    if end_a == end_b:
        raise OutOfRange()
    check_range(time, 1, MOST_TIME)
    check_range(repair_cost, 1, MOST_REPAIR_COST)
    if len(instance.roads) >= MOST_ROADS:
        raise TooManyRoads()
    instance.roads.append(Road(end_a, end_b, time, repair_cost))
    return [len(instance.roads) - 1]


def remove_road(instance, number):
    find_road(instance, number)
    instance.roads.pop(number)
    return [len(instance.roads)]


def block_road(instance, number):
    road = find_road(instance, number)
    if road.blocked == 1:
        raise AlreadySo()
    before = len(places_reached_now(instance))
    road.blocked = 1
    return [before - len(places_reached_now(instance))]


def repair_road(instance, number):
    road = find_road(instance, number)
    if road.blocked == 0:
        raise AlreadySo()
    road.blocked = 0
    return [road.repair_cost]


def set_store(instance, place, present):
    check_place(instance, place)
    check_range(present, 0, 1)
    before = instance.stores[place]
    instance.stores[place] = present
    return [before]


def list_roads(instance):
    answer = [len(instance.roads)]
    for road in instance.roads:
        answer.extend([road.end_a, road.end_b, road.time, road.repair_cost, road.blocked])
    return answer


def reachable_places(instance):
    reached = places_reached_now(instance)
    return [len(reached)] + reached


def unreachable_places(instance):
    reached = places_reached_now(instance)
    missed = [place for place in range(instance.place_count) if place not in reached]
    return [len(missed)] + missed


def travel_times(instance):
    times = [-1 if time is None else time for time in times_now(instance)]
    return [len(times)] + times


def travel_time(instance, place):
    return [find_time(instance, place)]


def greatest_travel_time(instance):
    time = greatest_time(instance.stores, usable_roads(instance))
    if time is None:
        raise Undefined()
    return [time]


def fastest_route(instance, place):
    # Asked for its refusals alone: a route is built only for a reachable place.
    find_time(instance, place)
    places = places_on_fastest_route(instance.stores, usable_roads(instance), place)
    return [len(places)] + places


def disjoint_route_count(instance, place):
    check_place(instance, place)
    if instance.stores[place] == 1:
        raise Undefined()
    return [count_disjoint_routes(instance.stores, usable_roads(instance), place)]


# The number of each call, with how many numbers it has. create is missing among
# the operations: it alone needs no instance and makes one.
CREATE = 0
PARAMETER_COUNTS = {0: 1, 1: 4, 2: 1, 3: 1, 4: 1, 5: 2, 6: 0, 7: 0, 8: 0, 9: 0, 10: 1, 11: 0, 12: 1, 13: 1}
OPERATIONS = {
    1: add_road,
    2: remove_road,
    3: block_road,
    4: repair_road,
    5: set_store,
    6: list_roads,
    7: reachable_places,
    8: unreachable_places,
    9: travel_times,
    10: travel_time,
    11: greatest_travel_time,
    12: fastest_route,
    13: disjoint_route_count,
}
