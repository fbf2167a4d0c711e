"""The minimum cuts: which roads, and how many, separate a place from all stores."""

from lastroads.disjoint import count_disjoint_routes
from lastroads.instance import usable_numbers, usable_roads
from lastroads.number_sets import size, subsets
from lastroads.outlook import reached_without


# The place must not have a store: it has no cut then. Else the set of all roads is one
# at the latest.
def smallest_cut(instance, place):
    road_sets = sorted(subsets(usable_numbers(instance)), key=lambda road_set: (size(road_set), road_set))
    position = 0
    while place in reached_without(instance, road_sets[position]):
        position += 1
    return road_sets[position]


# For each place the number of roads in its minimum cut, or None if it has a store.
# It is counted by the routes, since there are as many of these and they are found faster.
def cut_sizes(instance):
    roads = usable_roads(instance)
    sizes = [None] * instance.place_count
    for place in range(instance.place_count):
        if instance.stores[place] == 0:
            sizes[place] = count_disjoint_routes(instance.stores, roads, place)
    return sizes
