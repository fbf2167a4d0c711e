"""What an instance holds: places, roads and stores."""


class Road:
    def __init__(self, end_a, end_b, time, repair_cost):
        self.end_a = end_a
        self.end_b = end_b
        self.time = time
        self.repair_cost = repair_cost
        # 0 or 1, as list_roads answers it.
        self.blocked = 0


class Instance:
    def __init__(self, place_count):
        self.place_count = place_count
        # A road's number is its index, so that a removal renumbers the later ones.
        self.roads = []
        # For each place 0 or 1, as set_store answers it.
        self.stores = [0] * place_count


def usable_roads(instance):
    return [road for road in instance.roads if road.blocked == 0]


# None if the road doesn't touch the place.
def other_end(road, place):
    if road.end_a == place:
        return road.end_b
    if road.end_b == place:
        return road.end_a
    return None
