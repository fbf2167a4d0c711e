"""What would be reachable if some roads were blocked or repaired, and how much that would take or bring."""

from lastroads.instance import blocked_numbers, roads_with, roads_without, usable_numbers, usable_roads
from lastroads.reach import reached_places


def reached_now(instance):
    return reached_places(instance.stores, usable_roads(instance))


def reached_without(instance, road_set):
    return reached_places(instance.stores, roads_without(instance, road_set))


def reached_with(instance, road_set):
    return reached_places(instance.stores, roads_with(instance, road_set))


def loss(instance, number):
    return len(reached_now(instance)) - len(reached_without(instance, 1 << number))


def gain(instance, number):
    return len(reached_with(instance, 1 << number)) - len(reached_now(instance))


# For each road its loss, or None if it is blocked already.
def losses(instance):
    found = [None] * len(instance.roads)
    for number in usable_numbers(instance):
        found[number] = loss(instance, number)
    return found


# For each road its gain, or None if it isn't blocked.
def gains(instance):
    found = [None] * len(instance.roads)
    for number in blocked_numbers(instance):
        found[number] = gain(instance, number)
    return found
