import unittest

from tests.calling import HIGHEST, ask, last, town

NINE = [(0, 1)] * 9
CHAIN = town(4, [0], (0, 1, 2, 1), (1, 2, 3, 1), (2, 3, 4, 1))


class CriticalRoads(unittest.TestCase):
    def test_each_road_of_a_chain(self):
        self.assertEqual(last(*CHAIN, ("critical_roads",)), [3, 0, 1, 2])

    def test_only_roads_with_a_loss(self):
        calls = town(5, [2], (2, 0), (0, 1), (3, 4), (1, 2), (3, 2), (0, 1))
        self.assertEqual(last(*calls, ("critical_roads",)), [2, 2, 4])

    def test_none(self):
        self.assertEqual(ask(("create", 1), ("critical_roads",)), [[0], [0]])
        self.assertEqual(last(*town(2, [0], (0, 1), (0, 1)), ("critical_roads",)), [0])
        self.assertEqual(last(*town(2, [], (0, 1)), ("critical_roads",)), [0])
        self.assertEqual(last(*town(2, [0, 1], (0, 1)), ("critical_roads",)), [0])

    def test_what_is_not_reachable_is_not_lost(self):
        calls = CHAIN + [("block_road", 1)]
        self.assertEqual(last(*calls, ("critical_roads",)), [1, 0])

    def test_a_blocked_road_is_not_critical_and_can_make_others_critical(self):
        calls = town(2, [0], (0, 1), (0, 1)) + [("block_road", 0)]
        self.assertEqual(last(*calls, ("critical_roads",)), [1, 1])
        self.assertEqual(last(*calls, ("block_road", 1), ("critical_roads",)), [0])

    def test_nine_roads(self):
        calls = town(7, [0], *[(place, place + 1) for place in range(6)], *[(0, 1)] * 3)
        self.assertEqual(last(*calls, ("critical_roads",)), [5, 1, 2, 3, 4, 5])


class PreviewBlock(unittest.TestCase):
    def test_the_loss(self):
        for road, loss in ((0, 3), (1, 2), (2, 1)):
            self.assertEqual(last(*CHAIN, ("preview_block", road)), [loss, -1])

    def test_the_greatest_travel_time(self):
        calls = town(3, [0], (0, 1, 4, 1), (1, 2, 3, 1), (0, 2, 9, 1))
        self.assertEqual(last(*calls, ("preview_block", 0)), [0, 12])
        self.assertEqual(last(*calls, ("preview_block", 1)), [0, 9])
        self.assertEqual(last(*calls, ("preview_block", 2)), [0, 7])

    def test_no_loss_where_some_place_is_not_reachable_anyway(self):
        calls = town(3, [0], (0, 1), (0, 1))
        self.assertEqual(last(*calls, ("preview_block", 1)), [0, -1])
        self.assertEqual(last(*town(2, [], (0, 1)), ("preview_block", 0)), [0, -1])

    def test_stores_alone(self):
        self.assertEqual(last(*town(2, [0, 1], (0, 1)), ("preview_block", 0)), [0, 0])

    def test_the_instance_is_not_changed(self):
        seen = [("list_roads",), ("travel_times",), ("summary",)]
        given = ask(*CHAIN, *seen, ("preview_block", 0), *seen)
        self.assertEqual(given[-3:], given[-7:-4])
        self.assertEqual(last(*CHAIN, ("preview_block", 0), ("block_road", 0)), [3])
        self.assertEqual(last(*CHAIN, ("preview_block", 0), ("preview_block", 0)), [3, -1])

    def test_no_such_road(self):
        for road in (3, 4, 9, HIGHEST):
            self.assertEqual(last(*CHAIN, ("preview_block", road)), [-2])
        self.assertEqual(ask(("create", 7), ("preview_block", 0)), [[0], [-2]])

    def test_blocked_already(self):
        self.assertEqual(last(*CHAIN, ("block_road", 1), ("preview_block", 1)), [-17])
        self.assertEqual(last(*CHAIN, ("block_road", 1), ("repair_road", 1), ("preview_block", 1)), [2, -1])


class ReachableAfterBlocking(unittest.TestCase):
    def test_each_set(self):
        calls = town(4, [1], (0, 1), (1, 2), (2, 3))
        places = ([0, 1, 2, 3], [1, 2, 3], [0, 1], [1], [0, 1, 2], [1, 2], [0, 1], [1])
        for road_set in range(8):
            given = last(*calls, ("reachable_after_blocking", road_set))
            self.assertEqual(given, [len(places[road_set]), *places[road_set]])

    def test_blocked_roads_within_the_set(self):
        calls = town(4, [1], (0, 1), (1, 2), (2, 3)) + [("block_road", 1)]
        for road_set in (0, 2, 4, 6):
            self.assertEqual(last(*calls, ("reachable_after_blocking", road_set)), [2, 0, 1])
        for road_set in (1, 3, 5, 7):
            self.assertEqual(last(*calls, ("reachable_after_blocking", road_set)), [1, 1])

    def test_the_instance_is_not_changed(self):
        calls = town(4, [1], (0, 1), (1, 2), (2, 3)) + [("block_road", 1)]
        seen = [("list_roads",), ("travel_times",), ("summary",)]
        for road_set in range(8):
            given = ask(*calls, *seen, ("reachable_after_blocking", road_set), *seen)
            self.assertEqual(given[-3:], given[-7:-4])

    def test_no_store(self):
        self.assertEqual(last(*town(2, [], (0, 1)), ("reachable_after_blocking", 1)), [0])

    def test_out_of_range(self):
        for road_set in (8, 9, 15, 16, 512, 2147483648, HIGHEST):
            self.assertEqual(last(*CHAIN, ("reachable_after_blocking", road_set)), [-22])

    def test_the_end_of_the_range(self):
        for count in range(10):
            calls = town(2, [0], *[(0, 1)] * count)
            self.assertEqual(last(*calls, ("reachable_after_blocking", 2 ** count - 1)), [1, 0])
            self.assertEqual(last(*calls, ("reachable_after_blocking", 2 ** count)), [-22])

    def test_the_range_goes_by_all_roads(self):
        calls = town(2, [0], (0, 1), (0, 1)) + [("block_road", 1)]
        self.assertEqual(last(*calls, ("reachable_after_blocking", 3)), [1, 0])
        self.assertEqual(last(*calls, ("remove_road", 0), ("reachable_after_blocking", 2)), [-22])


class MostCriticalRoad(unittest.TestCase):
    def test_the_greatest_loss(self):
        self.assertEqual(last(*CHAIN, ("most_critical_road",)), [0, 3])
        self.assertEqual(last(*town(4, [0], (2, 3), (1, 2), (0, 1)), ("most_critical_road",)), [2, 3])

    def test_a_tie_goes_to_the_smaller_number(self):
        self.assertEqual(last(*town(3, [0], (0, 2), (0, 1)), ("most_critical_road",)), [0, 1])
        self.assertEqual(last(*town(3, [0], (0, 1), (0, 1), (0, 2)), ("most_critical_road",)), [2, 1])
        self.assertEqual(last(*town(5, [2], (2, 0), (2, 1), (1, 3), (0, 4)), ("most_critical_road",)), [0, 2])

    def test_a_loss_of_0(self):
        self.assertEqual(last(*town(2, [0], *NINE), ("most_critical_road",)), [0, 0])
        self.assertEqual(last(*town(2, [], (0, 1)), ("most_critical_road",)), [0, 0])
        calls = town(2, [0], *NINE) + [("block_road", 0), ("block_road", 1)]
        self.assertEqual(last(*calls, ("most_critical_road",)), [2, 0])

    def test_blocked_roads_are_passed_over(self):
        self.assertEqual(last(*CHAIN, ("block_road", 2), ("block_road", 0), ("most_critical_road",)), [1, 0])
        self.assertEqual(last(*CHAIN, ("block_road", 1), ("most_critical_road",)), [0, 1])

    def test_no_road_is_usable(self):
        self.assertEqual(ask(("create", 7), ("most_critical_road",)), [[0], [-33]])
        self.assertEqual(last(*town(2, [0], (0, 1)), ("block_road", 0), ("most_critical_road",)), [-33])
        self.assertEqual(last(*town(2, [0], (0, 1)), ("remove_road", 0), ("most_critical_road",)), [-33])


if __name__ == "__main__":
    unittest.main()
