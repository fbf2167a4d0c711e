"""Ask the calls by their names, and take their answers apart again."""

from lastroads.network import answers

NUMBERS = {
    "create": 0,
    "add_road": 1,
    "remove_road": 2,
    "block_road": 3,
    "repair_road": 4,
    "set_store": 5,
    "list_roads": 6,
    "reachable_places": 7,
    "unreachable_places": 8,
    "travel_times": 9,
    "travel_time": 10,
    "greatest_travel_time": 11,
    "fastest_route": 12,
    "disjoint_route_count": 13,
    "minimum_cut": 14,
    "weakest_place": 15,
    "critical_roads": 16,
    "preview_block": 17,
    "reachable_after_blocking": 18,
    "most_critical_road": 19,
    "cheapest_repair_plan": 20,
    "carry_out_repairs": 21,
    "preview_repair": 22,
    "best_repair": 23,
    "best_additional_store": 24,
    "surviving_places": 25,
    "summary": 26,
}

# How many numbers each call has; a call that is not here has none.
PARAMETERS = {
    "create": 1,
    "add_road": 4,
    "remove_road": 1,
    "block_road": 1,
    "repair_road": 1,
    "set_store": 2,
    "travel_time": 1,
    "fastest_route": 1,
    "disjoint_route_count": 1,
    "minimum_cut": 1,
    "preview_block": 1,
    "reachable_after_blocking": 1,
    "preview_repair": 1,
    "surviving_places": 1,
}
NO_PARAMETER = [name for name in NUMBERS if name not in PARAMETERS]

HIGHEST = 4294967295


def flat(calls):
    numbers = []
    for call in calls:
        if len(call) - 1 != PARAMETERS.get(call[0], 0):
            raise AssertionError(f"not a call of the document: {call}")
        numbers.append(NUMBERS[call[0]])
        numbers.extend(call[1:])
    return numbers


def apart(numbers):
    lists = []
    at = 0
    while at < len(numbers):
        size = numbers[at]
        if size < 1 or at + 1 + size > len(numbers):
            raise AssertionError(f"no answer of {size} numbers fits at {at} in {numbers}")
        lists.append(numbers[at + 1:at + 1 + size])
        at += 1 + size
    return lists


def ask(*calls):
    """The answer of each call, on a new object: one list a call."""
    handed = flat(calls)
    if not 1 <= len(calls) <= 40:
        raise AssertionError(f"{len(calls)} calls are not 1 to 40")
    kept = list(handed)
    given = answers(handed)
    if handed != kept:
        raise AssertionError(f"the list handed in was changed: {handed}, it was {kept}")
    if type(given) is not list or any(type(number) is not int for number in given):
        raise AssertionError(f"not a list of whole numbers: {given!r}")
    lists = apart(given)
    if len(lists) != len(calls):
        raise AssertionError(f"{len(lists)} answers for {len(calls)} calls")
    return lists


def last(*calls):
    """The answer of the last of the calls."""
    return ask(*calls)[-1]


def town(place_count, stores, *roads):
    """The calls that make an instance: a road is its two ends, or these with time and cost."""
    calls = [("create", place_count)]
    for road in roads:
        calls.append(("add_road", *road) if len(road) == 4 else ("add_road", *road, 1, 1))
    for place in stores:
        calls.append(("set_store", place, 1))
    return calls
