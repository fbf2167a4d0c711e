"""Repair plans: sets of blocked roads whose repair makes all places reachable."""

from lastroads.instance import blocked_numbers
from lastroads.number_sets import members, size, subsets
from lastroads.outlook import reached_with


def plan_cost(instance, plan):
    return sum([instance.roads[number].repair_cost for number in members(plan)])


def is_repair_plan(instance, road_set):
    return len(reached_with(instance, road_set)) == instance.place_count


# None if there is no repair plan. The first that is found is the cheapest, as the sets
# are tried in the document's order of them.
def cheapest_plan(instance):
    road_sets = subsets(blocked_numbers(instance))
    for plan in sorted(road_sets, key=lambda tried: (plan_cost(instance, tried), size(tried), tried)):
        if is_repair_plan(instance, plan):
            return plan
    return None
