import unittest

from tests.calling import HIGHEST, ask, last, town

NINE = [(0, 1)] * 9


class AddRoad(unittest.TestCase):
    def test_numbers_in_the_order_of_adding(self):
        given = ask(("create", 7), *[("add_road", 5, 6, 1, 1)] * 9)
        self.assertEqual(given, [[0]] + [[number] for number in range(9)])

    def test_the_ends_of_the_ranges(self):
        given = ask(("create", 7), ("add_road", 6, 0, 1, 1), ("add_road", 0, 6, 20, 50), ("list_roads",))
        self.assertEqual(given, [[0], [0], [1], [2, 6, 0, 1, 1, 0, 0, 6, 20, 50, 0]])

    def test_an_added_road_can_be_used(self):
        given = ask(("create", 2), ("set_store", 1, 1), ("add_road", 0, 1, 8, 1), ("travel_times",))
        self.assertEqual(given[-1], [2, 8, 0])

    def test_no_such_place(self):
        for end_a, end_b in ((3, 0), (0, 3), (3, 3), (HIGHEST, 0), (0, HIGHEST), (HIGHEST, HIGHEST), (7, 1)):
            self.assertEqual(ask(("create", 3), ("add_road", end_a, end_b, 1, 1)), [[0], [-2]])

    def test_out_of_range(self):
        wrong = ((1, 1, 1, 1), (0, 1, 0, 1), (0, 1, 21, 1), (0, 1, HIGHEST, 1))
        wrong += ((0, 1, 1, 0), (0, 1, 1, 51), (0, 1, 1, HIGHEST), (0, 0, 0, 0))
        for numbers in wrong:
            self.assertEqual(ask(("create", 2), ("add_road", *numbers)), [[0], [-22]])

    def test_one_place_has_no_roads(self):
        self.assertEqual(ask(("create", 1), ("add_road", 0, 0, 1, 1)), [[0], [-22]])
        self.assertEqual(ask(("create", 1), ("add_road", 0, 1, 1, 1)), [[0], [-2]])

    def test_a_tenth_road(self):
        calls = town(2, [], *NINE)
        self.assertEqual(last(*calls, ("add_road", 0, 1, 1, 1)), [-28])
        self.assertEqual(last(*calls, ("add_road", 0, 1, 20, 50)), [-28])
        self.assertEqual(last(*calls, ("block_road", 4), ("add_road", 0, 1, 1, 1)), [-28])

    def test_a_ninth_road_again_after_a_removal(self):
        calls = town(2, [], *NINE) + [("remove_road", 0), ("add_road", 1, 0, 2, 3)]
        self.assertEqual(last(*calls), [8])
        self.assertEqual(last(*calls, ("list_roads",))[-5:], [1, 0, 2, 3, 0])
        self.assertEqual(last(*calls, ("add_road", 1, 0, 2, 3)), [-28])

    def test_the_order_of_its_errors(self):
        calls = town(2, [], *NINE)
        self.assertEqual(last(*calls, ("add_road", 2, 2, 0, 0)), [-2])
        self.assertEqual(last(*calls, ("add_road", 2, 1, 1, 1)), [-2])
        self.assertEqual(last(*calls, ("add_road", 0, 2, 21, 1)), [-2])
        for numbers in ((1, 1, 1, 1), (0, 1, 0, 1), (0, 1, 21, 1), (0, 1, 1, 0), (0, 1, 1, 51)):
            self.assertEqual(last(*calls, ("add_road", *numbers)), [-22])


class RemoveRoad(unittest.TestCase):
    def test_later_roads_change_their_numbers(self):
        calls = town(3, [], (0, 1, 1, 11), (1, 2, 2, 12), (2, 0, 3, 13), (0, 2, 4, 14))
        calls += [("block_road", 2), ("remove_road", 1)]
        self.assertEqual(last(*calls), [3])
        self.assertEqual(
            last(*calls, ("list_roads",)), [3, 0, 1, 1, 11, 0, 2, 0, 3, 13, 1, 0, 2, 4, 14, 0]
        )
        self.assertEqual(last(*calls, ("repair_road", 1)), [13])
        self.assertEqual(last(*calls, ("block_road", 2), ("list_roads",))[-1], 1)
        self.assertEqual(last(*calls, ("block_road", 3)), [-2])
        self.assertEqual(last(*calls, ("add_road", 0, 1, 1, 1)), [3])

    def test_the_first_and_the_last(self):
        calls = town(2, [], (0, 1, 1, 1), (0, 1, 2, 2), (0, 1, 3, 3))
        self.assertEqual(last(*calls, ("remove_road", 0), ("list_roads",)), [2, 0, 1, 2, 2, 0, 0, 1, 3, 3, 0])
        self.assertEqual(last(*calls, ("remove_road", 2), ("list_roads",)), [2, 0, 1, 1, 1, 0, 0, 1, 2, 2, 0])

    def test_down_to_none(self):
        given = ask(*town(2, [0], *NINE), *[("remove_road", 0)] * 10, ("travel_times",))
        self.assertEqual(given[-11:], [[left] for left in range(8, -1, -1)] + [[-2], [2, 0, -1]])

    def test_a_blocked_road(self):
        self.assertEqual(last(*town(2, [], (0, 1)), ("block_road", 0), ("remove_road", 0)), [0])

    def test_a_removed_road_is_not_used(self):
        calls = town(3, [0], (0, 1, 1, 1), (1, 2, 1, 1), (0, 2, 9, 1))
        self.assertEqual(last(*calls, ("remove_road", 1), ("travel_times",)), [3, 0, 1, 9])

    def test_no_such_road(self):
        for road in (2, 3, HIGHEST):
            self.assertEqual(last(*town(2, [], (0, 1), (0, 1)), ("remove_road", road)), [-2])
        self.assertEqual(ask(("create", 7), ("remove_road", 0)), [[0], [-2]])


class BlockRoad(unittest.TestCase):
    def test_the_loss(self):
        chain = town(4, [0], (0, 1), (1, 2), (2, 3))
        for road, loss in ((0, 3), (1, 2), (2, 1)):
            self.assertEqual(last(*chain, ("block_road", road)), [loss])

    def test_only_what_was_reachable_is_lost(self):
        chain = town(4, [0], (0, 1), (1, 2), (2, 3))
        self.assertEqual(last(*chain, ("block_road", 1), ("block_road", 2)), [0])
        self.assertEqual(last(*chain, ("block_road", 1), ("block_road", 0)), [1])

    def test_no_loss(self):
        self.assertEqual(last(*town(2, [0], (0, 1), (1, 0)), ("block_road", 0)), [0])
        self.assertEqual(last(*town(2, [], (0, 1)), ("block_road", 0)), [0])
        self.assertEqual(last(*town(2, [0, 1], (0, 1)), ("block_road", 0)), [0])

    def test_the_road_is_blocked(self):
        calls = town(2, [0], (0, 1, 3, 4), (0, 1, 5, 6)) + [("block_road", 0)]
        self.assertEqual(last(*calls, ("list_roads",)), [2, 0, 1, 3, 4, 1, 0, 1, 5, 6, 0])
        self.assertEqual(last(*calls, ("travel_times",)), [2, 0, 5])

    def test_no_such_road(self):
        for road in (1, 2, HIGHEST):
            self.assertEqual(last(*town(2, [], (0, 1)), ("block_road", road)), [-2])
        self.assertEqual(ask(("create", 7), ("block_road", 0)), [[0], [-2]])

    def test_blocked_already(self):
        calls = town(2, [0], (0, 1), (0, 1)) + [("block_road", 1)]
        self.assertEqual(last(*calls, ("block_road", 1)), [-17])
        self.assertEqual(last(*calls, ("block_road", 1), ("block_road", 1)), [-17])
        self.assertEqual(last(*calls, ("block_road", 2)), [-2])


class RepairRoad(unittest.TestCase):
    def test_the_cost(self):
        calls = town(2, [0], (0, 1, 3, 50), (0, 1, 5, 6)) + [("block_road", 0), ("block_road", 1)]
        self.assertEqual(last(*calls, ("repair_road", 0)), [50])
        self.assertEqual(last(*calls, ("repair_road", 1)), [6])

    def test_the_road_can_be_used_again(self):
        calls = town(2, [0], (0, 1, 3, 4), (0, 1, 5, 6)) + [("block_road", 0), ("block_road", 1), ("repair_road", 1)]
        self.assertEqual(last(*calls, ("list_roads",)), [2, 0, 1, 3, 4, 1, 0, 1, 5, 6, 0])
        self.assertEqual(last(*calls, ("travel_times",)), [2, 0, 5])
        self.assertEqual(last(*calls, ("block_road", 1)), [1])

    def test_no_such_road(self):
        for road in (1, 2, HIGHEST):
            self.assertEqual(last(*town(2, [], (0, 1)), ("repair_road", road)), [-2])
        self.assertEqual(ask(("create", 7), ("repair_road", 0)), [[0], [-2]])

    def test_not_blocked(self):
        calls = town(2, [0], (0, 1))
        self.assertEqual(last(*calls, ("repair_road", 0)), [-17])
        self.assertEqual(last(*calls, ("block_road", 0), ("repair_road", 0), ("repair_road", 0)), [-17])


class SetStore(unittest.TestCase):
    def test_the_store_before(self):
        given = ask(
            ("create", 7),
            ("set_store", 6, 0),
            ("set_store", 6, 1),
            ("set_store", 6, 1),
            ("set_store", 0, 1),
            ("set_store", 6, 0),
            ("set_store", 6, 0),
            ("set_store", 0, 0),
        )
        self.assertEqual(given[1:], [[0], [0], [1], [0], [1], [0], [1]])

    def test_a_store_is_reachable_until_it_closes(self):
        calls = [("create", 3), ("set_store", 1, 1)]
        self.assertEqual(last(*calls, ("reachable_places",)), [1, 1])
        self.assertEqual(last(*calls, ("set_store", 1, 0), ("reachable_places",)), [0])

    def test_no_such_place(self):
        for place in (3, 7, HIGHEST):
            for present in (0, 1, 2, HIGHEST):
                self.assertEqual(ask(("create", 3), ("set_store", place, present)), [[0], [-2]])

    def test_present_out_of_range(self):
        for present in (2, 3, HIGHEST):
            self.assertEqual(ask(("create", 3), ("set_store", 2, present)), [[0], [-22]])


class Unchanged(unittest.TestCase):
    """An operation that returns an error leaves the instance as it was."""

    def check(self, calls, wrong, code):
        seen = [("list_roads",), ("travel_times",), ("summary",)]
        given = ask(*calls, *seen, wrong, *seen)
        with self.subTest(wrong=wrong):
            self.assertEqual(given[-4], [code])
            self.assertEqual(given[-3:], given[-7:-4])

    def test_each_error(self):
        calls = town(4, [0, 2], (0, 1, 2, 3), (1, 3, 4, 5), (2, 3, 6, 7)) + [("block_road", 2)]
        self.check(calls, ("create", 0), -22)
        self.check(calls, ("create", 8), -22)
        self.check(calls, ("add_road", 4, 0, 1, 1), -2)
        self.check(calls, ("add_road", 0, 4, 1, 1), -2)
        self.check(calls, ("add_road", 1, 1, 1, 1), -22)
        self.check(calls, ("add_road", 0, 1, 0, 1), -22)
        self.check(calls, ("add_road", 0, 1, 1, 51), -22)
        self.check(calls, ("remove_road", 3), -2)
        self.check(calls, ("block_road", 3), -2)
        self.check(calls, ("block_road", 2), -17)
        self.check(calls, ("repair_road", 3), -2)
        self.check(calls, ("repair_road", 0), -17)
        self.check(calls, ("set_store", 4, 1), -2)
        self.check(calls, ("set_store", 1, 2), -22)
        self.check(calls, ("set_store", 0, 2), -22)
        self.check(calls, ("set_store", 0, HIGHEST), -22)
        self.check(calls, ("travel_time", 4), -2)
        self.check(calls, ("fastest_route", 4), -2)
        self.check(calls, ("disjoint_route_count", 4), -2)
        self.check(calls, ("disjoint_route_count", 2), -33)
        self.check(calls, ("minimum_cut", 4), -2)
        self.check(calls, ("minimum_cut", 2), -33)
        self.check(calls, ("preview_block", 3), -2)
        self.check(calls, ("preview_block", 2), -17)
        self.check(calls, ("reachable_after_blocking", 8), -22)
        self.check(calls, ("reachable_after_blocking", HIGHEST), -22)
        self.check(calls, ("preview_repair", 3), -2)
        self.check(calls, ("preview_repair", 0), -17)

    def test_no_place_road_or_plan_to_choose(self):
        self.check(town(3, [0, 1, 2], (0, 1)), ("weakest_place",), -33)
        self.check(town(3, [0], (0, 1)) + [("block_road", 0)], ("most_critical_road",), -33)
        self.check(town(3, [0], (0, 1)) + [("block_road", 0)], ("cheapest_repair_plan",), -33)
        self.check(town(3, [0], (0, 1)) + [("block_road", 0)], ("carry_out_repairs",), -33)
        self.check(town(3, [0], (0, 1)), ("best_repair",), -33)
        self.check(town(4, [0], (0, 1)), ("best_additional_store",), -33)

    def test_a_tenth_road(self):
        self.check(town(2, [0], *NINE), ("add_road", 0, 1, 7, 7), -28)

    def test_what_is_not_reachable(self):
        calls = town(3, [0], (0, 1))
        self.check(calls, ("travel_time", 2), -33)
        self.check(calls, ("fastest_route", 2), -33)
        self.check(calls, ("greatest_travel_time",), -33)

    def test_questions_change_nothing(self):
        calls = town(4, [0, 2], (0, 1, 2, 3), (1, 3, 4, 5), (2, 3, 6, 7)) + [("block_road", 2)]
        seen = [("list_roads",), ("travel_times",), ("summary",)]
        asked = [("reachable_places",), ("unreachable_places",), ("travel_time", 3), ("greatest_travel_time",)]
        asked += [("fastest_route", 3), ("disjoint_route_count", 3), ("minimum_cut", 3), ("weakest_place",)]
        more = [("critical_roads",), ("preview_block", 0), ("reachable_after_blocking", 5), ("most_critical_road",)]
        more += [("cheapest_repair_plan",), ("preview_repair", 2), ("best_repair",), ("best_additional_store",)]
        for questions in (asked, more + [("surviving_places", 0)]):
            given = ask(*calls, *seen, *questions, *seen, *questions)[len(calls):]
            half = len(given) // 2
            self.assertEqual(given[:half], given[half:])


if __name__ == "__main__":
    unittest.main()
