import unittest

from tests.calling import HIGHEST, ask, last, town


class TravelTimes(unittest.TestCase):
    def test_the_fastest_of_several_routes(self):
        calls = town(4, [0], (0, 3, 20, 1), (0, 1, 5, 1), (1, 2, 5, 1), (2, 3, 5, 1), (0, 2, 11, 1))
        self.assertEqual(last(*calls, ("travel_times",)), [4, 0, 5, 10, 15])

    def test_more_roads_can_be_faster(self):
        calls = town(7, [6], (6, 0, 20, 1), (0, 1, 1, 1), (1, 2, 1, 1), (2, 3, 1, 1), (3, 4, 1, 1), (4, 6, 1, 1))
        self.assertEqual(last(*calls, ("travel_times",)), [7, 5, 4, 3, 2, 1, -1, 0])

    def test_the_longest_way(self):
        calls = town(7, [0], *[(place, place + 1, 20, 1) for place in range(6)])
        self.assertEqual(last(*calls, ("travel_times",)), [7, 0, 20, 40, 60, 80, 100, 120])
        self.assertEqual(last(*calls, ("greatest_travel_time",)), [120])

    def test_roads_added_backwards(self):
        calls = town(7, [0], *[(place, place - 1, place, 1) for place in range(6, 0, -1)])
        self.assertEqual(last(*calls, ("travel_times",)), [7, 0, 1, 3, 6, 10, 15, 21])

    def test_several_roads_between_the_same_places(self):
        calls = town(2, [1], (0, 1, 9, 1), (1, 0, 4, 1), (0, 1, 6, 1))
        self.assertEqual(last(*calls, ("travel_times",)), [2, 4, 0])
        self.assertEqual(last(*calls, ("block_road", 1), ("travel_times",)), [2, 6, 0])

    def test_the_nearest_store(self):
        calls = town(4, [0, 3], (0, 1, 5, 1), (1, 2, 5, 1), (2, 3, 3, 1))
        self.assertEqual(last(*calls, ("travel_times",)), [4, 0, 5, 3, 0])

    def test_no_store_and_every_place_with_one(self):
        self.assertEqual(last(*town(3, [], (0, 1)), ("travel_times",)), [3, -1, -1, -1])
        self.assertEqual(last(*town(3, [0, 1, 2], (0, 1)), ("travel_times",)), [3, 0, 0, 0])


class TravelTime(unittest.TestCase):
    def test_each_place(self):
        calls = town(4, [1], (0, 1, 4, 1), (1, 2, 7, 1), (0, 2, 2, 1))
        for place, time in ((0, [4]), (1, [0]), (2, [6]), (3, [-33])):
            self.assertEqual(last(*calls, ("travel_time", place)), time)

    def test_no_such_place(self):
        for place in (4, 7, HIGHEST):
            self.assertEqual(last(*town(4, [0]), ("travel_time", place)), [-2])
            self.assertEqual(last(*town(4, []), ("travel_time", place)), [-2])

    def test_not_reachable(self):
        self.assertEqual(last(*town(1, []), ("travel_time", 0)), [-33])
        self.assertEqual(last(*town(2, [0], (0, 1)), ("block_road", 0), ("travel_time", 1)), [-33])


class GreatestTravelTime(unittest.TestCase):
    def test_the_greatest(self):
        calls = town(3, [1], (0, 1, 9, 1), (1, 2, 4, 1))
        self.assertEqual(last(*calls, ("greatest_travel_time",)), [9])

    def test_stores_alone(self):
        self.assertEqual(last(*town(1, [0]), ("greatest_travel_time",)), [0])
        self.assertEqual(last(*town(7, range(7)), ("greatest_travel_time",)), [0])

    def test_some_place_not_reachable(self):
        self.assertEqual(last(*town(3, [0], (0, 1)), ("greatest_travel_time",)), [-33])
        self.assertEqual(last(*town(3, [2], (2, 1)), ("greatest_travel_time",)), [-33])
        self.assertEqual(last(*town(1, []), ("greatest_travel_time",)), [-33])


class FastestRoute(unittest.TestCase):
    def test_from_the_store_to_the_place(self):
        calls = town(5, [3], (3, 1, 2, 1), (1, 4, 2, 1), (4, 0, 2, 1), (3, 0, 7, 1))
        self.assertEqual(last(*calls, ("fastest_route", 0)), [4, 3, 1, 4, 0])
        self.assertEqual(last(*calls, ("fastest_route", 4)), [3, 3, 1, 4])

    def test_a_place_with_a_store(self):
        self.assertEqual(last(*town(1, [0]), ("fastest_route", 0)), [1, 0])
        self.assertEqual(last(*town(3, [0, 2], (0, 2)), ("fastest_route", 2)), [1, 2])

    def test_a_tie_goes_to_the_smaller_road_at_the_place(self):
        over_2_first = town(4, [0], (0, 1, 1, 1), (0, 2, 1, 1), (2, 3, 1, 1), (1, 3, 1, 1))
        self.assertEqual(last(*over_2_first, ("fastest_route", 3)), [3, 0, 2, 3])
        over_1_first = town(4, [0], (0, 2, 1, 1), (0, 1, 1, 1), (1, 3, 1, 1), (2, 3, 1, 1))
        self.assertEqual(last(*over_1_first, ("fastest_route", 3)), [3, 0, 1, 3])

    def test_a_tie_is_broken_backwards_from_the_place(self):
        # From the store on, road 0 would lead over 1; from the place back, road 1 leads over 2.
        calls = town(4, [0], (0, 1, 2, 1), (3, 2, 3, 1), (3, 1, 3, 1), (0, 2, 2, 1))
        self.assertEqual(last(*calls, ("fastest_route", 3)), [3, 0, 2, 3])

    def test_a_tie_of_two_stores(self):
        self.assertEqual(last(*town(3, [0, 2], (2, 1), (0, 1)), ("fastest_route", 1)), [2, 2, 1])
        self.assertEqual(last(*town(3, [0, 2], (0, 1), (2, 1)), ("fastest_route", 1)), [2, 0, 1])

    def test_a_tie_between_few_roads_and_many(self):
        calls = town(3, [0], (0, 1, 1, 1), (1, 2, 1, 1), (0, 2, 2, 1))
        self.assertEqual(last(*calls, ("fastest_route", 2)), [3, 0, 1, 2])
        calls = town(3, [0], (0, 2, 2, 1), (0, 1, 1, 1), (1, 2, 1, 1))
        self.assertEqual(last(*calls, ("fastest_route", 2)), [2, 0, 2])

    def test_a_tie_changes_as_roads_are_removed(self):
        calls = town(4, [0], (1, 3), (2, 3), (0, 1), (0, 2))
        self.assertEqual(last(*calls, ("fastest_route", 3)), [3, 0, 1, 3])
        calls += [("remove_road", 0), ("add_road", 1, 3, 1, 1)]
        self.assertEqual(last(*calls, ("fastest_route", 3)), [3, 0, 2, 3])

    def test_blocked_and_slower_roads_are_passed_over(self):
        calls = town(3, [0], (0, 2, 5, 1), (0, 1, 2, 1), (1, 2, 9, 1), (1, 2, 3, 1)) + [("block_road", 0)]
        self.assertEqual(last(*calls, ("travel_time", 2), ("fastest_route", 2)), [3, 0, 1, 2])
        self.assertEqual(last(*calls, ("repair_road", 0), ("fastest_route", 2)), [2, 0, 2])

    def test_seven_places(self):
        calls = town(7, [6], *[(place, place + 1, 20, 1) for place in range(6)])
        self.assertEqual(last(*calls, ("fastest_route", 0)), [7, 6, 5, 4, 3, 2, 1, 0])

    def test_no_such_place(self):
        for place in (2, 7, HIGHEST):
            self.assertEqual(ask(("create", 2), ("fastest_route", place)), [[0], [-2]])

    def test_not_reachable(self):
        self.assertEqual(ask(("create", 1), ("fastest_route", 0)), [[0], [-33]])
        self.assertEqual(last(*town(3, [0], (0, 1)), ("fastest_route", 2)), [-33])


if __name__ == "__main__":
    unittest.main()
