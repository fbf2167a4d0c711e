"""What an instance holds: places, roads and stores."""

from lastroads.number_sets import is_member


class Road:
    def __init__(self, end_a, end_b, time, repair_cost):
        self.end_a = end_a
        self.end_b = end_b
        self.time = time
        self.repair_cost = repair_cost
        # 0 or 1, as list_roads answers it.
        self.blocked = 0


class Instance:
    def __init__(self, place_count):
        self.place_count = place_count
        # A road's number is its index, so that a removal renumbers the later ones.
        self.roads = []
        # For each place 0 or 1, as set_store answers it.
        self.stores = [0] * place_count


def usable_numbers(instance):
    return [number for number in range(len(instance.roads)) if instance.roads[number].blocked == 0]


def blocked_numbers(instance):
    return [number for number in range(len(instance.roads)) if instance.roads[number].blocked == 1]


# A set may hold roads that are blocked already: they are left out either way.
def roads_without(instance, road_set):
    return [instance.roads[number] for number in usable_numbers(instance) if not is_member(road_set, number)]


# The roads keep the order of their numbers, which the ties of a fastest route go by.
def usable_roads(instance):
    return roads_without(instance, 0)


def roads_with(instance, road_set):
    repaired = [instance.roads[number] for number in blocked_numbers(instance) if is_member(road_set, number)]
    return usable_roads(instance) + repaired


# None if the road doesn't touch the place.
def other_end(road, place):
    if road.end_a == place:
        return road.end_b
    if road.end_b == place:
        return road.end_a
    return None
