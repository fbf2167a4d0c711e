import unittest

from tests.calling import HIGHEST, ask, last, town

SEEN = [("list_roads",), ("travel_times",), ("summary",)]


def broken(place_count, stores, *roads):
    """A town whose roads are all blocked."""
    return town(place_count, stores, *roads) + [("block_road", number) for number in range(len(roads))]


# Two of the three roads are needed.
TRIANGLE = broken(3, [0], (0, 1, 4, 3), (1, 2, 3, 9), (2, 0, 9, 4))

# Towns in which no repair makes all places reachable, with blocked roads and without.
HOPELESS = [
    [("create", 1)],
    [("create", 7)],
    town(2, [0]),
    town(2, [], (0, 1)),
    broken(2, [], (0, 1)),
    broken(3, [0], (0, 1), (0, 1)),
    broken(4, [0, 1], (0, 1), (2, 3)),
]


class CheapestRepairPlan(unittest.TestCase):
    def test_the_smallest_sum(self):
        self.assertEqual(last(*TRIANGLE, ("cheapest_repair_plan",)), [7, 0, 2])
        calls = broken(3, [0], (0, 1, 1, 9), (1, 2, 1, 4), (0, 2, 1, 3))
        self.assertEqual(last(*calls, ("cheapest_repair_plan",)), [7, 1, 2])
        self.assertEqual(last(*broken(2, [1], (0, 1, 1, 50), (0, 1, 1, 7)), ("cheapest_repair_plan",)), [7, 1])

    def test_the_smallest_sum_of_nine_roads(self):
        calls = broken(7, [3], *[(place, place + 1, 1, 50) for place in range(6)], (0, 2), (4, 6), (0, 6))
        self.assertEqual(last(*calls, ("cheapest_repair_plan",)), [153, 0, 2, 4, 6, 7, 8])

    def test_only_the_costs_of_its_roads_count(self):
        calls = broken(7, [0], *[(place, place + 1, 1, 50) for place in range(6)])
        self.assertEqual(last(*calls, ("cheapest_repair_plan",)), [300, 0, 1, 2, 3, 4, 5])
        self.assertEqual(last(*calls, ("repair_road", 2), ("cheapest_repair_plan",)), [250, 0, 1, 3, 4, 5])

    def test_roads_that_are_used_anyway_cost_nothing(self):
        calls = town(4, [0], (0, 1, 1, 50), (1, 2, 1, 5), (2, 3, 1, 50), (3, 0, 1, 6))
        calls += [("block_road", 1), ("block_road", 3)]
        self.assertEqual(last(*calls, ("cheapest_repair_plan",)), [5, 1])

    def test_any_of_the_stores_may_be_the_nearest(self):
        calls = broken(4, [0, 3], (0, 1, 1, 9), (1, 2, 1, 5), (2, 3, 1, 8))
        self.assertEqual(last(*calls, ("cheapest_repair_plan",)), [13, 1, 2])

    def test_a_tie_goes_to_the_smaller_set_number(self):
        self.assertEqual(last(*broken(2, [0], (0, 1), (0, 1), (0, 1)), ("cheapest_repair_plan",)), [1, 0])
        self.assertEqual(last(*broken(3, [0], (0, 1), (1, 2), (2, 0)), ("cheapest_repair_plan",)), [2, 0, 1])
        # {1, 2}, {1, 3}, {2, 3}: the dear road 0 stays blocked.
        calls = broken(3, [0], (0, 1, 1, 2), (1, 2), (2, 0), (0, 1))
        self.assertEqual(last(*calls, ("cheapest_repair_plan",)), [2, 1, 2])

    def test_a_smaller_sum_ahead_of_a_smaller_set_number(self):
        calls = broken(3, [0], (0, 1, 1, 3), (1, 2, 1, 3), (0, 1, 1, 1), (0, 2, 1, 2))
        self.assertEqual(last(*calls, ("cheapest_repair_plan",)), [3, 2, 3])

    def test_no_more_roads_than_needed(self):
        calls = broken(3, [0, 1], (0, 1), (0, 2), (1, 2), (0, 2))
        self.assertEqual(last(*calls, ("cheapest_repair_plan",)), [1, 1])

    def test_all_places_reachable_already(self):
        self.assertEqual(last(*town(1, [0]), ("cheapest_repair_plan",)), [0])
        self.assertEqual(last(*town(2, [0], (0, 1)), ("cheapest_repair_plan",)), [0])
        self.assertEqual(last(*town(2, [0], (0, 1), (0, 1)), ("block_road", 0), ("cheapest_repair_plan",)), [0])
        self.assertEqual(last(*broken(2, [0, 1], (0, 1)), ("cheapest_repair_plan",)), [0])

    def test_no_repair_plan(self):
        for calls in HOPELESS:
            with self.subTest(calls=calls):
                self.assertEqual(last(*calls, ("cheapest_repair_plan",)), [-33])

    def test_the_instance_is_not_changed(self):
        for calls in [TRIANGLE] + HOPELESS:
            given = ask(*calls, *SEEN, ("cheapest_repair_plan",), *SEEN, ("cheapest_repair_plan",))
            self.assertEqual(given[-4:-1], given[-8:-5])
            self.assertEqual(given[-1], given[-5])


class CarryOutRepairs(unittest.TestCase):
    def test_just_the_roads_of_the_plan(self):
        given = ask(*TRIANGLE, ("carry_out_repairs",), ("list_roads",), ("reachable_places",))[-3:]
        self.assertEqual(given, [[7], [3, 0, 1, 4, 3, 0, 1, 2, 3, 9, 1, 2, 0, 9, 4, 0], [3, 0, 1, 2]])

    def test_the_plan_that_was_told(self):
        calls = broken(3, [0], (0, 1, 1, 2), (1, 2), (2, 0), (0, 1))
        given = ask(*calls, ("cheapest_repair_plan",), ("carry_out_repairs",), ("list_roads",))[-3:]
        self.assertEqual(given[:2], [[2, 1, 2], [2]])
        self.assertEqual(given[2][5::5], [1, 0, 0, 1])

    def test_nothing_is_left_to_repair(self):
        given = ask(*TRIANGLE, ("carry_out_repairs",), ("cheapest_repair_plan",), ("carry_out_repairs",), ("summary",))
        self.assertEqual(given[-4:], [[7], [0], [0], [3, 3, 2, 1]])

    def test_all_places_reachable_already(self):
        calls = town(2, [0], (0, 1), (0, 1)) + [("block_road", 0)]
        self.assertEqual(ask(*calls, ("carry_out_repairs",), ("summary",))[-2:], [[0], [2, 2, 1, 1]])
        self.assertEqual(last(*town(1, [0]), ("carry_out_repairs",)), [0])

    def test_the_roads_are_of_use_and_can_be_blocked_again(self):
        given = ask(*TRIANGLE, ("carry_out_repairs",), ("travel_times",), ("block_road", 0), ("block_road", 1))
        self.assertEqual(given[-4:], [[7], [3, 0, 4, 9], [1], [-17]])

    def test_no_repair_plan(self):
        for calls in HOPELESS:
            with self.subTest(calls=calls):
                given = ask(*calls, *SEEN, ("carry_out_repairs",), *SEEN)
                self.assertEqual(given[-4], [-33])
                self.assertEqual(given[-3:], given[-7:-4])


class PreviewRepair(unittest.TestCase):
    def test_the_gain(self):
        calls = town(5, [0], (0, 1, 2, 1), (1, 2, 3, 1), (2, 3, 4, 1), (1, 4, 5, 1))
        self.assertEqual(last(*calls, ("block_road", 0), ("preview_repair", 0)), [4, 9])
        self.assertEqual(last(*calls, ("block_road", 1), ("preview_repair", 1)), [2, 9])
        self.assertEqual(last(*calls, ("block_road", 3), ("preview_repair", 3)), [1, 9])

    def test_some_place_is_not_reachable_even_so(self):
        calls = broken(4, [0], (0, 1), (1, 2), (2, 3))
        self.assertEqual(last(*calls, ("preview_repair", 0)), [1, -1])
        self.assertEqual(last(*calls, ("preview_repair", 1)), [0, -1])
        self.assertEqual(last(*broken(2, [], (0, 1)), ("preview_repair", 0)), [0, -1])

    def test_a_gain_of_0_that_is_faster(self):
        calls = town(3, [0], (0, 1, 4, 1), (1, 2, 9, 1), (0, 2, 5, 1), (0, 2, 20, 1))
        calls += [("block_road", 2), ("block_road", 3)]
        self.assertEqual(last(*calls, ("greatest_travel_time",)), [13])
        self.assertEqual(last(*calls, ("preview_repair", 2)), [0, 5])
        self.assertEqual(last(*calls, ("preview_repair", 3)), [0, 13])

    def test_stores_alone(self):
        self.assertEqual(last(*broken(2, [0, 1], (0, 1)), ("preview_repair", 0)), [0, 0])

    def test_the_instance_is_not_changed(self):
        for road in range(3):
            given = ask(*TRIANGLE, *SEEN, ("preview_repair", road), *SEEN)
            self.assertEqual(given[-3:], given[-7:-4])

    def test_no_such_road(self):
        for road in (3, 4, 9, HIGHEST):
            self.assertEqual(last(*TRIANGLE, ("preview_repair", road)), [-2])
        self.assertEqual(ask(("create", 7), ("preview_repair", 0)), [[0], [-2]])

    def test_not_blocked(self):
        self.assertEqual(last(*TRIANGLE, ("repair_road", 1), ("preview_repair", 1)), [-17])
        self.assertEqual(last(*town(2, [0], (0, 1)), ("preview_repair", 0)), [-17])


class BestRepair(unittest.TestCase):
    def test_the_greatest_gain(self):
        calls = town(5, [0], (0, 1), (0, 2), (2, 3), (0, 4)) + [("block_road", number) for number in (0, 1, 3)]
        self.assertEqual(last(*calls, ("best_repair",)), [1, 2])
        self.assertEqual(last(*calls, ("block_road", 2), ("best_repair",)), [0, 1])

    def test_a_tie_goes_to_the_smaller_number(self):
        calls = town(4, [0], (0, 1), (0, 2), (0, 3), (0, 2)) + [("block_road", number) for number in (3, 2, 1)]
        self.assertEqual(last(*calls, ("best_repair",)), [1, 1])

    def test_neither_costs_nor_times_count(self):
        calls = broken(4, [0], (0, 1, 1, 1), (0, 2, 20, 50), (2, 3, 1, 1)) + [("repair_road", 2)]
        self.assertEqual(last(*calls, ("best_repair",)), [1, 2])

    def test_a_gain_of_0(self):
        self.assertEqual(last(*town(2, [0], (0, 1), (0, 1)), ("block_road", 1), ("best_repair",)), [1, 0])
        self.assertEqual(last(*broken(3, [], (0, 1), (1, 2)), ("best_repair",)), [0, 0])
        calls = broken(4, [0], (2, 3), (1, 2)) + [("repair_road", 0)]
        self.assertEqual(last(*calls, ("best_repair",)), [1, 0])

    def test_the_instance_is_not_changed(self):
        given = ask(*TRIANGLE, *SEEN, ("best_repair",), *SEEN)
        self.assertEqual(given[-3:], given[-7:-4])
        self.assertEqual(given[-4], [0, 1])

    def test_no_road_is_blocked(self):
        self.assertEqual(ask(("create", 7), ("best_repair",)), [[0], [-33]])
        self.assertEqual(last(*town(2, [0], (0, 1)), ("best_repair",)), [-33])
        self.assertEqual(last(*TRIANGLE, *[("repair_road", road) for road in range(3)], ("best_repair",)), [-33])


if __name__ == "__main__":
    unittest.main()
