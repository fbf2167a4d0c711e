"""The operations of the document, each of which answers a list of whole numbers.

Each one checks for its errors, in the document's order, before it changes anything.
"""

from lastroads.cuts import cut_sizes, smallest_cut
from lastroads.disjoint import count_disjoint_routes
from lastroads.instance import Instance, Road, roads_with, roads_without, usable_numbers, usable_roads
from lastroads.number_sets import members, set_of
from lastroads.outlook import gain, gains, loss, losses, reached_now, reached_without
from lastroads.refusals import AlreadySo, NotThere, OutOfRange, TooManyRoads, Undefined
from lastroads.repairs import cheapest_plan, plan_cost
from lastroads.travel import greatest_time, places_on_fastest_route, times_to_places

MOST_PLACES = 7
MOST_ROADS = 9
MOST_TIME = 20
MOST_REPAIR_COST = 50


def check_range(number, least, most):
    if number < least or number > most:
        raise OutOfRange()


def check_place(instance, place):
    if place >= instance.place_count:
        raise NotThere()


def find_road(instance, number):
    if number >= len(instance.roads):
        raise NotThere()
    return instance.roads[number]


def find_usable_road(instance, number):
    road = find_road(instance, number)
    if road.blocked == 1:
        raise AlreadySo()
    return road


def find_blocked_road(instance, number):
    road = find_road(instance, number)
    if road.blocked == 0:
        raise AlreadySo()
    return road


# A place with a store has no cut, and no end of routes.
def check_has_cut(instance, place):
    check_place(instance, place)
    if instance.stores[place] == 1:
        raise Undefined()


def times_now(instance):
    return times_to_places(instance.stores, usable_roads(instance))


# The time of a place that has to be there and to be reachable.
def find_time(instance, place):
    check_place(instance, place)
    time = times_now(instance)[place]
    if time is None:
        raise Undefined()
    return time


# As if there were a store at the place, too; None as greatest_time gives it.
def greatest_time_with_store(instance, place):
    stores = list(instance.stores)
    stores[place] = 1
    return greatest_time(stores, usable_roads(instance))


def find_repair_plan(instance):
    plan = cheapest_plan(instance)
    if plan is None:
        raise Undefined()
    return plan


# The values that there are: a number that isn't to be chosen has None for its value.
def choices(values):
    found = [value for value in values if value is not None]
    if len(found) == 0:
        raise Undefined()
    return found


def counted(numbers):
    return [len(numbers)] + numbers


def answered_time(time):
    return -1 if time is None else time


# It answers the new instance and no numbers: the caller keeps the instance.
def create(place_count):
    check_range(place_count, 1, MOST_PLACES)
    return Instance(place_count)


def add_road(instance, end_a, end_b, time, repair_cost):
    check_place(instance, end_a)
    check_place(instance, end_b)
    if end_a == end_b:
        raise OutOfRange()
    check_range(time, 1, MOST_TIME)
    check_range(repair_cost, 1, MOST_REPAIR_COST)
    if len(instance.roads) >= MOST_ROADS:
        raise TooManyRoads()
    instance.roads.append(Road(end_a, end_b, time, repair_cost))
    return [len(instance.roads) - 1]


def remove_road(instance, number):
    find_road(instance, number)
    instance.roads.pop(number)
    return [len(instance.roads)]


def block_road(instance, number):
    road = find_usable_road(instance, number)
    lost = loss(instance, number)
    road.blocked = 1
    return [lost]


def repair_road(instance, number):
    road = find_blocked_road(instance, number)
    road.blocked = 0
    return [road.repair_cost]


def set_store(instance, place, present):
    check_place(instance, place)
    check_range(present, 0, 1)
    before = instance.stores[place]
    instance.stores[place] = present
    return [before]


def list_roads(instance):
    answer = [len(instance.roads)]
    for road in instance.roads:
        answer.extend([road.end_a, road.end_b, road.time, road.repair_cost, road.blocked])
    return answer


def reachable_places(instance):
    return counted(reached_now(instance))


def unreachable_places(instance):
    reached = reached_now(instance)
    return counted([place for place in range(instance.place_count) if place not in reached])


def travel_times(instance):
    return counted([answered_time(time) for time in times_now(instance)])


def travel_time(instance, place):
    return [find_time(instance, place)]


def greatest_travel_time(instance):
    time = greatest_time(instance.stores, usable_roads(instance))
    if time is None:
        raise Undefined()
    return [time]


def fastest_route(instance, place):
    # Asked for its refusals alone: a route is built only for a reachable place.
    find_time(instance, place)
    return counted(places_on_fastest_route(instance.stores, usable_roads(instance), place))


def disjoint_route_count(instance, place):
    check_has_cut(instance, place)
    return [count_disjoint_routes(instance.stores, usable_roads(instance), place)]


def minimum_cut(instance, place):
    check_has_cut(instance, place)
    return counted(members(smallest_cut(instance, place)))


# As in the other choices below, index finds the first, which has the smaller number.
def weakest_place(instance):
    sizes = cut_sizes(instance)
    fewest = min(choices(sizes))
    return [sizes.index(fewest), fewest]


def critical_roads(instance):
    lost = losses(instance)
    return counted([number for number in usable_numbers(instance) if lost[number] > 0])


def preview_block(instance, number):
    # Asked for its refusals alone, as in preview_repair below.
    find_usable_road(instance, number)
    time = greatest_time(instance.stores, roads_without(instance, 1 << number))
    return [loss(instance, number), answered_time(time)]


def reachable_after_blocking(instance, road_set):
    check_range(road_set, 0, (1 << len(instance.roads)) - 1)
    return counted(reached_without(instance, road_set))


def most_critical_road(instance):
    lost = losses(instance)
    most = max(choices(lost))
    return [lost.index(most), most]


def cheapest_repair_plan(instance):
    plan = find_repair_plan(instance)
    return [plan_cost(instance, plan)] + members(plan)


def carry_out_repairs(instance):
    plan = find_repair_plan(instance)
    for number in members(plan):
        road = instance.roads[number]
        road.blocked = 0
    return [plan_cost(instance, plan)]


def preview_repair(instance, number):
    find_blocked_road(instance, number)
    time = greatest_time(instance.stores, roads_with(instance, 1 << number))
    return [gain(instance, number), answered_time(time)]


def best_repair(instance):
    gained = gains(instance)
    most = max(choices(gained))
    return [gained.index(most), most]


def best_additional_store(instance):
    times = [greatest_time_with_store(instance, place) for place in range(instance.place_count)]
    smallest = min(choices(times))
    return [times.index(smallest), smallest]


# A place with a store has no cut, so it survives whatever number of failures.
def surviving_places(instance, k):
    sizes = cut_sizes(instance)
    return counted([place for place in range(len(sizes)) if sizes[place] is None or sizes[place] > k])


def summary(instance):
    with_store = [place for place in range(instance.place_count) if instance.stores[place] == 1]
    return [instance.place_count, len(instance.roads), len(usable_numbers(instance)), set_of(with_store)]


# How many numbers each call has, by its own number.
CREATE = 0
PARAMETER_COUNTS = {
    0: 1, 1: 4, 2: 1, 3: 1, 4: 1, 5: 2, 6: 0, 7: 0, 8: 0, 9: 0, 10: 1, 11: 0, 12: 1, 13: 1,
    14: 1, 15: 0, 16: 0, 17: 1, 18: 1, 19: 0, 20: 0, 21: 0, 22: 1, 23: 0, 24: 0, 25: 1, 26: 0,
}
# create is missing: it alone needs no instance and makes one.
OPERATIONS = {
    1: add_road,
    2: remove_road,
    3: block_road,
    4: repair_road,
    5: set_store,
    6: list_roads,
    7: reachable_places,
    8: unreachable_places,
    9: travel_times,
    10: travel_time,
    11: greatest_travel_time,
    12: fastest_route,
    13: disjoint_route_count,
    14: minimum_cut,
    15: weakest_place,
    16: critical_roads,
    17: preview_block,
    18: reachable_after_blocking,
    19: most_critical_road,
    20: cheapest_repair_plan,
    21: carry_out_repairs,
    22: preview_repair,
    23: best_repair,
    24: best_additional_store,
    25: surviving_places,
    26: summary,
}
