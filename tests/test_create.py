import unittest

from tests.calling import HIGHEST, NUMBERS, ask, last, town

OTHERS = [
    ("add_road", 0, 1, 1, 1),
    ("remove_road", 0),
    ("block_road", 0),
    ("repair_road", 0),
    ("set_store", 0, 1),
    ("list_roads",),
    ("reachable_places",),
    ("unreachable_places",),
    ("travel_times",),
    ("travel_time", 0),
    ("greatest_travel_time",),
    ("fastest_route", 0),
    ("disjoint_route_count", 0),
    ("minimum_cut", 0),
    ("weakest_place",),
    ("critical_roads",),
    ("preview_block", 0),
    ("reachable_after_blocking", 0),
    ("most_critical_road",),
    ("cheapest_repair_plan",),
    ("carry_out_repairs",),
    ("preview_repair", 0),
    ("best_repair",),
    ("best_additional_store",),
    ("surviving_places", 0),
    ("summary",),
]

# Each of these has an error of its own to answer once there is an instance.
WRONG = [
    ("add_road", HIGHEST, HIGHEST, HIGHEST, HIGHEST),
    ("remove_road", HIGHEST),
    ("block_road", HIGHEST),
    ("repair_road", HIGHEST),
    ("set_store", HIGHEST, HIGHEST),
    ("travel_time", HIGHEST),
    ("fastest_route", HIGHEST),
    ("disjoint_route_count", HIGHEST),
    ("minimum_cut", HIGHEST),
    ("preview_block", HIGHEST),
    ("reachable_after_blocking", HIGHEST),
    ("preview_repair", HIGHEST),
    ("surviving_places", HIGHEST),
]


class Create(unittest.TestCase):
    def test_every_call_is_tried_without_an_instance(self):
        self.assertEqual({call[0] for call in OTHERS}, set(NUMBERS) - {"create"})

    def test_every_number_of_places(self):
        for count in range(1, 8):
            self.assertEqual(ask(("create", count), ("travel_times",)), [[0], [count] + [-1] * count])

    def test_no_roads_and_no_stores_at_first(self):
        self.assertEqual(
            ask(("create", 7), ("list_roads",), ("reachable_places",)), [[0], [0], [0]]
        )

    def test_numbers_of_places_out_of_range(self):
        for count in (0, 8, 9, 255, 4294967294, HIGHEST):
            self.assertEqual(ask(("create", count)), [[-22]])

    def test_no_instance_at_first(self):
        for call in OTHERS + WRONG:
            with self.subTest(call=call):
                self.assertEqual(ask(call, call), [[-11], [-11]])

    def test_no_instance_ahead_of_a_create_that_succeeds(self):
        for call in OTHERS + WRONG:
            with self.subTest(call=call):
                given = ask(call, ("create", 2), ("list_roads",), ("travel_times",), ("summary",))
                self.assertEqual(given, [[-11], [0], [0], [2, -1, -1], [2, 0, 0, 0]])

    def test_no_instance_after_a_create_that_fails(self):
        for call in OTHERS + WRONG:
            for count in (0, 8, HIGHEST):
                with self.subTest(call=call, count=count):
                    self.assertEqual(ask(("create", count), call), [[-22], [-11]])

    def test_no_instance_until_a_create_succeeds(self):
        asked = ("travel_times",)
        given = ask(("create", 0), asked, ("create", 8), asked, ("create", 1), asked)
        self.assertEqual(given, [[-22], [-11], [-22], [-11], [0], [1, -1]])

    def test_a_create_replaces_the_instance(self):
        calls = town(3, [0, 2], (0, 1), (1, 2)) + [("block_road", 0), ("create", 4)]
        self.assertEqual(last(*calls), [0])
        self.assertEqual(last(*calls, ("list_roads",)), [0])
        self.assertEqual(last(*calls, ("travel_times",)), [4, -1, -1, -1, -1])
        self.assertEqual(last(*calls, ("add_road", 3, 0, 1, 1)), [0])

    def test_a_create_of_the_same_size_replaces_it_too(self):
        calls = town(2, [0], (0, 1)) + [("create", 2)]
        self.assertEqual(last(*calls, ("list_roads",)), [0])
        self.assertEqual(last(*calls, ("reachable_places",)), [0])

    def test_a_create_that_fails_leaves_the_instance(self):
        for count in (0, 8, HIGHEST):
            calls = town(3, [1], (0, 1, 5, 6), (1, 2, 7, 8)) + [("block_road", 1), ("create", count)]
            self.assertEqual(last(*calls), [-22])
            self.assertEqual(last(*calls, ("list_roads",)), [2, 0, 1, 5, 6, 0, 1, 2, 7, 8, 1])
            self.assertEqual(last(*calls, ("travel_times",)), [3, 5, 0, -1])


if __name__ == "__main__":
    unittest.main()
