"""The answers compared with slow ones that follow the document's definitions word by word."""

import itertools
import random
import unittest

from tests.calling import HIGHEST, NO_PARAMETER, NUMBERS, ask, last


class Model:
    def __init__(self):
        self.size = None

    def answer(self, name, *numbers):
        if name == "create":
            if not 1 <= numbers[0] <= 7:
                return [-22]
            self.size, self.roads, self.stores = numbers[0], [], set()
            return [0]
        if self.size is None:
            return [-11]
        return getattr(self, name)(*numbers)

    def routes(self, place):
        """Each route that comes to no place twice: its places, its roads, its time."""
        found = []

        def go(places, roads, time):
            if places[-1] == place:
                found.append((places, roads, time))
                return
            for number, (end_a, end_b, length, _, blocked) in enumerate(self.roads):
                if not blocked and places[-1] in (end_a, end_b):
                    there = end_b if places[-1] == end_a else end_a
                    if there not in places:
                        go(places + [there], roads + [number], time + length)

        for store in self.stores:
            go([store], [], 0)
        return found

    def time(self, place):
        return min((time for _, _, time in self.routes(place)), default=None)

    def reached(self, without=(), repaired=()):
        """The places reachable without some roads and with others, by merging groups of places."""
        groups = [{number} for number in range(self.size)]
        for number, (end_a, end_b, _, _, blocked) in enumerate(self.roads):
            if (not blocked and number not in without) or number in repaired:
                both = [group for group in groups if end_a in group or end_b in group]
                groups = [group for group in groups if group not in both] + [set().union(*both)]
        return sorted(place for group in groups if group & self.stores for place in group)

    def numbers(self, blocked):
        return [number for number, road in enumerate(self.roads) if road[4] == blocked]

    def least_cut(self, place):
        """The roads of the minimum cut: of the sets that have the fewest roads the smallest one."""
        usable = self.numbers(0)
        for count in range(len(usable) + 1):
            cuts = [cut for cut in itertools.combinations(usable, count) if place not in self.reached(cut)]
            if cuts:
                return list(min(cuts, key=set_number))

    def cut_size(self, place):
        return len(self.least_cut(place))

    def plans(self):
        """The repair plans, the cheapest first, each with its cost."""
        found = []
        for plan in subsets(self.numbers(1)):
            if len(self.reached((), plan)) == self.size:
                found.append((sum(self.roads[number][3] for number in plan), len(plan), set_number(plan), plan))
        return sorted(found)

    def with_change(self, blocked=(), repaired=(), stores=()):
        """Another model, with some roads blocked, others repaired and more stores."""
        other = Model()
        other.size, other.roads = self.size, [list(road) for road in self.roads]
        other.stores = self.stores | set(stores)
        for number in blocked:
            other.roads[number][4] = 1
        for number in repaired:
            other.roads[number][4] = 0
        return other

    def greatest(self):
        times = [self.time(place) for place in range(self.size)]
        return None if None in times else max(times)

    def lost(self, road):
        return len(set(self.reached()) - set(self.reached((road,))))

    def gained(self, road):
        return len(set(self.reached((), (road,))) - set(self.reached()))

    def most_routes(self, place):
        masks = sorted({sum(1 << road for road in roads) for _, roads, _ in self.routes(place)})

        def most(start, taken):
            best = 0
            for at in range(start, len(masks)):
                if not masks[at] & taken:
                    best = max(best, 1 + most(at + 1, taken | masks[at]))
            return best

        return most(0, 0)

    def add_road(self, end_a, end_b, time, cost):
        if end_a >= self.size or end_b >= self.size:
            return [-2]
        if end_a == end_b or not 1 <= time <= 20 or not 1 <= cost <= 50:
            return [-22]
        if len(self.roads) == 9:
            return [-28]
        self.roads.append([end_a, end_b, time, cost, 0])
        return [len(self.roads) - 1]

    def remove_road(self, road):
        if road >= len(self.roads):
            return [-2]
        del self.roads[road]
        return [len(self.roads)]

    def block_road(self, road):
        if road >= len(self.roads):
            return [-2]
        if self.roads[road][4]:
            return [-17]
        lost = self.lost(road)
        self.roads[road][4] = 1
        return [lost]

    def repair_road(self, road):
        if road >= len(self.roads):
            return [-2]
        if not self.roads[road][4]:
            return [-17]
        self.roads[road][4] = 0
        return [self.roads[road][3]]

    def set_store(self, place, present):
        if place >= self.size:
            return [-2]
        if present > 1:
            return [-22]
        before = place in self.stores
        self.stores = self.stores - {place} if present == 0 else self.stores | {place}
        return [int(before)]

    def list_roads(self):
        return [len(self.roads)] + [number for road in self.roads for number in road]

    def reachable_places(self):
        return [len(self.reached()), *self.reached()]

    def unreachable_places(self):
        others = [place for place in range(self.size) if place not in self.reached()]
        return [len(others), *others]

    def travel_times(self):
        times = [self.time(place) for place in range(self.size)]
        return [self.size] + [-1 if time is None else time for time in times]

    def travel_time(self, place):
        if place >= self.size:
            return [-2]
        time = self.time(place)
        return [-33 if time is None else time]

    def greatest_travel_time(self):
        return [-33 if self.greatest() is None else self.greatest()]

    def fastest_route(self, place):
        if place >= self.size:
            return [-2]
        if self.time(place) is None:
            return [-33]
        fastest = [route for route in self.routes(place) if route[2] == self.time(place)]
        # Backwards from the place, the smallest number at each step: of several routes it
        # is the one whose roads, read backwards, come first.
        places = min(fastest, key=lambda route: route[1][::-1])[0]
        return [len(places), *places]

    def disjoint_route_count(self, place):
        if place >= self.size:
            return [-2]
        if place in self.stores:
            return [-33]
        return [self.most_routes(place)]

    def minimum_cut(self, place):
        if place >= self.size:
            return [-2]
        if place in self.stores:
            return [-33]
        return [self.cut_size(place), *self.least_cut(place)]

    def weakest_place(self):
        sizes = [(self.cut_size(place), place) for place in range(self.size) if place not in self.stores]
        return [min(sizes)[1], min(sizes)[0]] if sizes else [-33]

    def critical_roads(self):
        critical = [road for road in self.numbers(0) if self.lost(road)]
        return [len(critical), *critical]

    def preview_block(self, road):
        if road >= len(self.roads):
            return [-2]
        if self.roads[road][4]:
            return [-17]
        greatest = self.with_change(blocked=[road]).greatest()
        return [self.lost(road), -1 if greatest is None else greatest]

    def reachable_after_blocking(self, road_set):
        if road_set >= 2 ** len(self.roads):
            return [-22]
        left = self.reached([road for road in range(9) if road_set & 2 ** road])
        return [len(left), *left]

    def most_critical_road(self):
        losses = [(-self.lost(road), road) for road in self.numbers(0)]
        return [min(losses)[1], -min(losses)[0]] if losses else [-33]

    def cheapest_repair_plan(self):
        return [self.plans()[0][0], *self.plans()[0][3]] if self.plans() else [-33]

    def carry_out_repairs(self):
        plan = self.cheapest_repair_plan()
        for road in plan[1:]:
            self.roads[road][4] = 0
        return plan[:1]

    def preview_repair(self, road):
        if road >= len(self.roads):
            return [-2]
        if not self.roads[road][4]:
            return [-17]
        greatest = self.with_change(repaired=[road]).greatest()
        return [self.gained(road), -1 if greatest is None else greatest]

    def best_repair(self):
        gains = [(-self.gained(road), road) for road in self.numbers(1)]
        return [min(gains)[1], -min(gains)[0]] if gains else [-33]

    def best_additional_store(self):
        times = [(self.with_change(stores=[place]).greatest(), place) for place in range(self.size)]
        times = [time for time in times if time[0] is not None]
        return [min(times)[1], min(times)[0]] if times else [-33]

    def surviving_places(self, k):
        """By the other words of the term: reachable whichever k or fewer roads are blocked."""
        usable = self.numbers(0)
        lost = set()
        for count in range(min(k, len(usable)) + 1):
            for roads in itertools.combinations(usable, count):
                lost |= set(range(self.size)) - set(self.reached(roads))
        return [self.size - len(lost), *sorted(set(range(self.size)) - lost)]

    def summary(self):
        return [self.size, len(self.roads), len(self.numbers(0)), set_number(self.stores)]


def set_number(members):
    return sum(2 ** member for member in members)


def subsets(numbers):
    """Each set of the numbers, as a tuple of its members."""
    return [chosen for count in range(len(numbers) + 1) for chosen in itertools.combinations(numbers, count)]


def any_number(chance, most):
    return chance.choice((most + 1, HIGHEST)) if chance.random() < 0.04 else chance.randint(0, most)


def any_call(chance, size):
    name = chance.choice(sorted(NUMBERS) + ["add_road"] * 12 + ["set_store", "block_road", "block_road"])
    if name == "create":
        return (name, chance.choice((0, 1, 2, 8, HIGHEST, 3, 4, 5, 6, 7)))
    if name == "add_road":
        return (name, any_number(chance, size - 1), any_number(chance, size - 1),
                any_number(chance, chance.choice((3, 20))), any_number(chance, chance.choice((3, 50))))
    if name == "set_store":
        return (name, any_number(chance, size - 1), any_number(chance, 1))
    if name in ("remove_road", "block_road", "repair_road", "preview_block", "preview_repair"):
        return (name, any_number(chance, 8))
    if name == "reachable_after_blocking":
        return (name, any_number(chance, 2 ** chance.randint(0, 9) - 1))
    if name == "surviving_places":
        return (name, any_number(chance, 3))
    return (name,) if name in NO_PARAMETER else (name, any_number(chance, size - 1))


def any_town(chance):
    """A whole town, some of its roads blocked, and a model of it."""
    size = chance.randint(2, 7)
    calls = [("create", size)]
    for place in range(size):
        if chance.random() < 0.3:
            calls.append(("set_store", place, 1))
    most_time, most_cost = chance.choice((2, 20)), chance.choice((1, 2, 50))
    blocked = chance.choice((0.1, 0.1, 0.4, 0.7))
    for number in range(chance.choice((5, 7, 8, 9, 9))):
        ends = chance.sample(range(size), 2)
        calls.append(("add_road", *ends, chance.randint(1, most_time), chance.randint(1, most_cost)))
        if chance.random() < blocked:
            calls.append(("block_road", number))
    model = Model()
    for call in calls:
        model.answer(*call)
    return calls, model


class Definitions(unittest.TestCase):
    def compare(self, calls, model, asked):
        other = model.with_change()
        self.assertEqual(ask(*calls, *asked)[len(calls):], [other.answer(*call) for call in asked])

    def test_any_calls(self):
        chance = random.Random(1)
        for number in range(500):
            size = chance.randint(1, 7)
            calls = [("create", size)] if chance.random() < 0.9 else []
            while len(calls) < 40:
                call = any_call(chance, size)
                # Rarely: it takes everything away that the calls before have built.
                if call[0] != "create" or chance.random() < 0.2:
                    calls.append(call)
            model = Model()
            with self.subTest(number=number):
                self.assertEqual(ask(*calls), [model.answer(*call) for call in calls])

    def test_whole_towns(self):
        chance = random.Random(2)
        for number in range(200):
            calls, model = any_town(chance)
            with self.subTest(number=number):
                self.compare(calls, model, [(name,) for name in NO_PARAMETER])
                self.compare(calls, model, [("surviving_places", k) for k in (0, 1, 2, 3, 9, HIGHEST)])
                self.compare(calls, model, [("reachable_after_blocking", chance.randint(0, 511)) for _ in range(9)])
            for place in range(model.size):
                names = ("travel_time", "fastest_route", "disjoint_route_count", "minimum_cut")
                with self.subTest(number=number, place=place):
                    self.compare(calls, model, [(name, place) for name in names])
            for road in range(len(model.roads)):
                with self.subTest(number=number, road=road):
                    self.compare(calls, model, [("preview_block", road), ("preview_repair", road)])


class Requirements(unittest.TestCase):
    """The document's requirements, each by what it says of the definitions."""

    def test_as_many_routes_as_the_minimum_cut_has_roads(self):
        chance = random.Random(3)
        for number in range(200):
            calls, model = any_town(chance)
            for place in sorted(set(range(model.size)) - model.stores):
                with self.subTest(number=number, place=place):
                    count, cut = ask(*calls, ("disjoint_route_count", place), ("minimum_cut", place))[-2:]
                    self.assertEqual(count, [model.most_routes(place)])
                    self.assertEqual(cut[:1], count)
                    self.assertEqual(len(cut), 1 + cut[0])

    def test_the_minimum_cut_is_a_cut_and_no_cut_has_fewer_roads(self):
        chance = random.Random(5)
        for number in range(100):
            calls, model = any_town(chance)
            for place in sorted(set(range(model.size)) - model.stores):
                with self.subTest(number=number, place=place):
                    cut = last(*calls, ("minimum_cut", place))[1:]
                    self.assertNotIn(place, model.reached(cut))
                    for fewer in subsets(model.numbers(0)):
                        if len(fewer) < len(cut):
                            self.assertIn(place, model.reached(fewer))

    def test_no_route_is_faster_and_some_route_is_as_fast(self):
        chance = random.Random(4)
        for number in range(200):
            calls, model = any_town(chance)
            times = last(*calls, ("travel_times",))[1:]
            for place in range(model.size):
                lengths = [time for _, _, time in model.routes(place)]
                with self.subTest(number=number, place=place):
                    self.assertEqual(times[place], min(lengths, default=-1))

    def test_the_cheapest_plan_makes_all_reachable_and_no_plan_costs_less(self):
        chance = random.Random(6)
        for number in range(150):
            calls, model = any_town(chance)
            with self.subTest(number=number):
                plan = last(*calls, ("cheapest_repair_plan",))
                costs = [cost for cost, _, _, _ in model.plans()]
                self.assertEqual(plan[0], min(costs, default=-33))
                if costs:
                    self.assertEqual(len(model.reached((), plan[1:])), model.size)
                    repaired = ask(*calls, ("carry_out_repairs",), ("unreachable_places",))[-2:]
                    self.assertEqual(repaired, [plan[:1], [0]])

    def test_plans_that_cost_the_least_have_equally_many_roads(self):
        """So the tie that goes to fewer roads has none to choose from: each of these plans joins what is apart."""
        chance = random.Random(9)
        for number in range(150):
            plans = any_town(chance)[1].plans()
            with self.subTest(number=number):
                self.assertLessEqual(len({count for cost, count, _, _ in plans if cost == plans[0][0]}), 1)

    def test_what_survives_stays_and_what_does_not_can_be_cut_off(self):
        chance = random.Random(7)
        for number in range(60):
            calls, model = any_town(chance)
            for k in (0, 1, 2, 3):
                survives = last(*calls, ("surviving_places", k))[1:]
                fails = [roads for roads in subsets(list(range(len(model.roads)))) if len(roads) <= k]
                with self.subTest(number=number, k=k):
                    for place in range(model.size):
                        stays = all(place in model.reached(roads) for roads in fails)
                        self.assertEqual(place in survives, stays)

    def test_errors_leave_the_instance_unchanged(self):
        chance = random.Random(8)
        seen = [("list_roads",), ("travel_times",), ("summary",)]
        for number in range(300):
            calls, model = any_town(chance)
            wrong = any_call(chance, model.size)
            given = ask(*calls, *seen, wrong, *seen)
            if given[-4][0] < 0:
                with self.subTest(number=number, wrong=wrong):
                    self.assertEqual(given[-3:], given[-7:-4])


if __name__ == "__main__":
    unittest.main()
