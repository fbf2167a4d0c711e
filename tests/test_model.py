"""The answers compared with slow ones that follow the document's definitions word by word."""

import itertools
import random
import unittest

from tests.calling import HIGHEST, NUMBERS, ask

NO_PARAMETER = ("list_roads", "reachable_places", "unreachable_places", "travel_times", "greatest_travel_time")


class Model:
    def __init__(self):
        self.size = None

    def answer(self, name, *numbers):
        if name == "create":
            if not 1 <= numbers[0] <= 7:
                return [-22]
            self.size, self.roads, self.stores = numbers[0], [], set()
            return [0]
        if self.size is None:
            return [-11]
        return getattr(self, name)(*numbers)

    def routes(self, place):
        """Each route that comes to no place twice: its places, its roads, its time."""
        found = []

        def go(places, roads, time):
            if places[-1] == place:
                found.append((places, roads, time))
                return
            for number, (end_a, end_b, length, _, blocked) in enumerate(self.roads):
                if not blocked and places[-1] in (end_a, end_b):
                    there = end_b if places[-1] == end_a else end_a
                    if there not in places:
                        go(places + [there], roads + [number], time + length)

        for store in self.stores:
            go([store], [], 0)
        return found

    def time(self, place):
        return min((time for _, _, time in self.routes(place)), default=None)

    def joined(self, place, without=()):
        """Whether the place is reachable without some roads, by merging groups of places."""
        groups = [{number} for number in range(self.size)]
        for number, (end_a, end_b, _, _, blocked) in enumerate(self.roads):
            if not blocked and number not in without:
                both = [group for group in groups if end_a in group or end_b in group]
                groups = [group for group in groups if group not in both] + [set().union(*both)]
        return any(place in group and group & self.stores for group in groups)

    def reached(self):
        return [place for place in range(self.size) if self.joined(place)]

    def smallest_cut(self, place):
        usable = [number for number, road in enumerate(self.roads) if not road[4]]
        for count in range(len(usable) + 1):
            for cut in itertools.combinations(usable, count):
                if not self.joined(place, cut):
                    return count

    def most_routes(self, place):
        masks = sorted({sum(1 << road for road in roads) for _, roads, _ in self.routes(place)})

        def most(start, taken):
            best = 0
            for at in range(start, len(masks)):
                if not masks[at] & taken:
                    best = max(best, 1 + most(at + 1, taken | masks[at]))
            return best

        return most(0, 0)

    def add_road(self, end_a, end_b, time, cost):
        if end_a >= self.size or end_b >= self.size:
            return [-2]
        if end_a == end_b or not 1 <= time <= 20 or not 1 <= cost <= 50:
            return [-22]
        if len(self.roads) == 9:
            return [-28]
        self.roads.append([end_a, end_b, time, cost, 0])
        return [len(self.roads) - 1]

    def remove_road(self, road):
        if road >= len(self.roads):
            return [-2]
        del self.roads[road]
        return [len(self.roads)]

    def block_road(self, road):
        if road >= len(self.roads):
            return [-2]
        if self.roads[road][4]:
            return [-17]
        before = self.reached()
        self.roads[road][4] = 1
        return [len(set(before) - set(self.reached()))]

    def repair_road(self, road):
        if road >= len(self.roads):
            return [-2]
        if not self.roads[road][4]:
            return [-17]
        self.roads[road][4] = 0
        return [self.roads[road][3]]

    def set_store(self, place, present):
        if place >= self.size:
            return [-2]
        if present > 1:
            return [-22]
        before = place in self.stores
        self.stores = self.stores - {place} if present == 0 else self.stores | {place}
        return [int(before)]

    def list_roads(self):
        return [len(self.roads)] + [number for road in self.roads for number in road]

    def reachable_places(self):
        return [len(self.reached()), *self.reached()]

    def unreachable_places(self):
        others = [place for place in range(self.size) if place not in self.reached()]
        return [len(others), *others]

    def travel_times(self):
        times = [self.time(place) for place in range(self.size)]
        return [self.size] + [-1 if time is None else time for time in times]

    def travel_time(self, place):
        if place >= self.size:
            return [-2]
        time = self.time(place)
        return [-33 if time is None else time]

    def greatest_travel_time(self):
        times = [self.time(place) for place in range(self.size)]
        return [-33 if None in times else max(times)]

    def fastest_route(self, place):
        if place >= self.size:
            return [-2]
        if self.time(place) is None:
            return [-33]
        fastest = [route for route in self.routes(place) if route[2] == self.time(place)]
        # Backwards from the place, the smallest number at each step: of several routes it
        # is the one whose roads, read backwards, come first.
        places = min(fastest, key=lambda route: route[1][::-1])[0]
        return [len(places), *places]

    def disjoint_route_count(self, place):
        if place >= self.size:
            return [-2]
        if place in self.stores:
            return [-33]
        return [self.most_routes(place)]


def any_number(chance, most):
    return chance.choice((most + 1, HIGHEST)) if chance.random() < 0.04 else chance.randint(0, most)


def any_call(chance, size):
    name = chance.choice(sorted(NUMBERS) + ["add_road"] * 9 + ["set_store", "block_road"])
    if name == "create":
        return (name, chance.choice((0, 1, 2, 8, HIGHEST, 3, 4, 5, 6, 7)))
    if name == "add_road":
        return (name, any_number(chance, size - 1), any_number(chance, size - 1),
                any_number(chance, chance.choice((3, 20))), any_number(chance, 50))
    if name == "set_store":
        return (name, any_number(chance, size - 1), any_number(chance, 1))
    if name in ("remove_road", "block_road", "repair_road"):
        return (name, any_number(chance, 8))
    return (name,) if name in NO_PARAMETER else (name, any_number(chance, size - 1))


def any_town(chance):
    """A whole town, some of its roads blocked, and a model of it."""
    size = chance.randint(2, 7)
    calls = [("create", size)]
    for place in range(size):
        if chance.random() < 0.3:
            calls.append(("set_store", place, 1))
    for number in range(chance.choice((5, 7, 8, 9, 9))):
        calls.append(("add_road", *chance.sample(range(size), 2), chance.randint(1, chance.choice((2, 20))), 1))
        if chance.random() < 0.1:
            calls.append(("block_road", number))
    model = Model()
    for call in calls:
        model.answer(*call)
    return calls, model


class Definitions(unittest.TestCase):
    def test_any_calls(self):
        chance = random.Random(1)
        for number in range(400):
            size = chance.randint(1, 7)
            calls = [("create", size)] if chance.random() < 0.9 else []
            while len(calls) < 40:
                call = any_call(chance, size)
                # Rarely: it takes everything away that the calls before have built.
                if call[0] != "create" or chance.random() < 0.2:
                    calls.append(call)
            model = Model()
            with self.subTest(number=number):
                self.assertEqual(ask(*calls), [model.answer(*call) for call in calls])

    def test_whole_towns(self):
        chance = random.Random(2)
        for number in range(300):
            calls, model = any_town(chance)
            for place in range(model.size):
                asked = [(name,) for name in NO_PARAMETER]
                asked += [("travel_time", place), ("fastest_route", place), ("disjoint_route_count", place)]
                with self.subTest(number=number, place=place):
                    self.assertEqual(ask(*calls, *asked)[len(calls):], [model.answer(*call) for call in asked])

    def test_as_many_routes_as_the_smallest_cut_has_roads(self):
        chance = random.Random(3)
        for number in range(200):
            calls, model = any_town(chance)
            for place in sorted(set(range(model.size)) - model.stores):
                with self.subTest(number=number, place=place):
                    given = ask(*calls, ("disjoint_route_count", place))[-1]
                    self.assertEqual(given, [model.smallest_cut(place)])
                    self.assertEqual(given, [model.most_routes(place)])

    def test_no_route_is_faster_and_some_route_is_as_fast(self):
        chance = random.Random(4)
        for number in range(200):
            calls, model = any_town(chance)
            times = ask(*calls, ("travel_times",))[-1][1:]
            for place in range(model.size):
                lengths = [time for _, _, time in model.routes(place)]
                with self.subTest(number=number, place=place):
                    self.assertEqual(times[place], min(lengths, default=-1))


if __name__ == "__main__":
    unittest.main()
