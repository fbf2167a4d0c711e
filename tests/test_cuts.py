import unittest

from tests.calling import HIGHEST, ask, last, town

NINE = [(0, 1)] * 9


class MinimumCut(unittest.TestCase):
    def test_a_chain(self):
        # Road 1 alone, too, would cut place 2 off: the smaller number counts.
        calls = town(3, [0], (0, 1), (1, 2))
        self.assertEqual(last(*calls, ("minimum_cut", 2)), [1, 0])
        self.assertEqual(last(*calls, ("minimum_cut", 1)), [1, 0])

    def test_fewer_roads_ahead_of_a_smaller_set(self):
        # 0 and 1 are the smaller set, but 2 alone does.
        calls = town(3, [0], (0, 1), (0, 1), (1, 2))
        self.assertEqual(last(*calls, ("minimum_cut", 2)), [1, 2])
        self.assertEqual(last(*calls, ("minimum_cut", 1)), [2, 0, 1])

    def test_a_tie_goes_to_the_smaller_set_number(self):
        # {0, 1} is 3; {1, 2}, {0, 3} and {2, 3}, which cut place 3 off as well, are 6, 9 and 12.
        calls = town(4, [0], (0, 1), (0, 2), (1, 3), (2, 3))
        self.assertEqual(last(*calls, ("minimum_cut", 3)), [2, 0, 1])
        # {0, 2, 3} is 13 and {1, 2, 3} is 14.
        calls = town(5, [0], (0, 1), (1, 4), (0, 4), (0, 4))
        self.assertEqual(last(*calls, ("minimum_cut", 4)), [3, 0, 2, 3])

    def test_the_highest_road_decides_the_set_number(self):
        # {1, 2} is 6 and {0, 3} is 9, though 0 stands ahead of 1.
        calls = town(3, [0], (1, 2), (0, 1), (0, 1), (1, 2))
        self.assertEqual(last(*calls, ("minimum_cut", 2)), [2, 1, 2])
        calls = town(3, [0], (0, 1), (1, 2), (1, 2), (0, 1))
        self.assertEqual(last(*calls, ("minimum_cut", 2)), [2, 1, 2])
        self.assertEqual(last(*calls, ("minimum_cut", 1)), [2, 0, 3])

    def test_a_greater_number_of_roads(self):
        self.assertEqual(last(*town(2, [1], *NINE), ("minimum_cut", 0)), [9, 0, 1, 2, 3, 4, 5, 6, 7, 8])
        calls = town(3, [2], (0, 1), (0, 2), (0, 1), (0, 2), (0, 2), (1, 2), (1, 2))
        self.assertEqual(last(*calls, ("minimum_cut", 0)), [5, 0, 1, 2, 3, 4])
        self.assertEqual(last(*calls, ("minimum_cut", 1)), [4, 0, 2, 5, 6])

    def test_all_stores_are_cut_off_from_the_place(self):
        calls = town(4, [0, 1, 2], (0, 3), (0, 1), (1, 3), (1, 2), (2, 3))
        self.assertEqual(last(*calls, ("minimum_cut", 3)), [3, 0, 2, 4])

    def test_blocked_roads_are_not_in_it(self):
        calls = town(3, [0], (0, 1), (0, 1), (1, 2), (1, 2)) + [("block_road", 0), ("block_road", 2)]
        self.assertEqual(last(*calls, ("minimum_cut", 2)), [1, 1])
        self.assertEqual(last(*calls, ("repair_road", 0), ("minimum_cut", 2)), [1, 3])
        self.assertEqual(last(*calls, ("repair_road", 2), ("minimum_cut", 2)), [1, 1])

    def test_not_reachable(self):
        self.assertEqual(ask(("create", 1), ("minimum_cut", 0)), [[0], [0]])
        self.assertEqual(last(*town(2, [], (0, 1)), ("minimum_cut", 1)), [0])
        self.assertEqual(last(*town(3, [0], (0, 1)), ("minimum_cut", 2)), [0])
        self.assertEqual(last(*town(2, [0], (0, 1)), ("block_road", 0), ("minimum_cut", 1)), [0])

    def test_a_place_with_a_store(self):
        self.assertEqual(last(*town(2, [0], (0, 1)), ("minimum_cut", 0)), [-33])
        for place in range(7):
            self.assertEqual(last(*town(7, range(7)), ("minimum_cut", place)), [-33])

    def test_no_such_place(self):
        for place in (2, 7, HIGHEST):
            self.assertEqual(last(*town(2, [0, 1]), ("minimum_cut", place)), [-2])
            self.assertEqual(last(*town(2, []), ("minimum_cut", place)), [-2])


class WeakestPlace(unittest.TestCase):
    def test_the_fewest_roads(self):
        calls = town(3, [0], (0, 1), (0, 1), (0, 1), (0, 2), (1, 2))
        self.assertEqual(last(*calls, ("weakest_place",)), [2, 2])
        self.assertEqual(last(*calls, ("add_road", 0, 2, 1, 1), ("add_road", 0, 2, 1, 1), ("weakest_place",)), [1, 4])

    def test_a_tie_goes_to_the_smaller_place(self):
        self.assertEqual(last(*town(4, [1], (1, 3), (1, 2), (1, 0)), ("weakest_place",)), [0, 1])
        self.assertEqual(last(*town(4, [0], (0, 3), (0, 2), (0, 1), (0, 1)), ("weakest_place",)), [2, 1])
        self.assertEqual(last(*town(4, [0], (0, 1)), ("weakest_place",)), [2, 0])

    def test_a_place_with_a_store_is_not_among_them(self):
        calls = town(3, [0, 1], (1, 2), (1, 2))
        self.assertEqual(last(*calls, ("weakest_place",)), [2, 2])
        self.assertEqual(last(*town(3, [0, 2], (0, 1)), ("weakest_place",)), [1, 1])

    def test_a_place_that_is_not_reachable(self):
        self.assertEqual(last(*town(3, [0], (0, 1)), ("weakest_place",)), [2, 0])
        self.assertEqual(last(*town(3, [], (0, 1)), ("weakest_place",)), [0, 0])
        self.assertEqual(last(*town(2, [0], (0, 1), (0, 1)), ("block_road", 1), ("weakest_place",)), [1, 1])

    def test_every_place_with_a_store(self):
        self.assertEqual(last(*town(1, [0]), ("weakest_place",)), [-33])
        self.assertEqual(last(*town(7, range(7), (0, 6)), ("weakest_place",)), [-33])
        self.assertEqual(last(*town(7, range(7)), ("set_store", 6, 0), ("weakest_place",)), [6, 0])


class SurvivingPlaces(unittest.TestCase):
    # 1 has three roads to the store, 2 two, 3 one, 4 none.
    TOWN = town(5, [0], (0, 1), (0, 1), (0, 1), (0, 2), (1, 2), (2, 3))

    def test_each_number_of_failures(self):
        for k, places in ((0, [0, 1, 2, 3]), (1, [0, 1, 2]), (2, [0, 1]), (3, [0, 1]), (4, [0]), (6, [0])):
            self.assertEqual(last(*self.TOWN, ("surviving_places", k)), [len(places), *places])

    def test_far_more_failures_than_roads(self):
        for k in (7, 9, 10, 512, 4294967294, HIGHEST):
            self.assertEqual(last(*self.TOWN, ("surviving_places", k)), [1, 0])
            self.assertEqual(last(*town(7, range(7)), ("surviving_places", k)), [7, 0, 1, 2, 3, 4, 5, 6])
            self.assertEqual(last(*town(3, [], (0, 1)), ("surviving_places", k)), [0])

    def test_as_many_failures_as_the_cut_has_roads(self):
        calls = town(2, [0], *NINE)
        self.assertEqual(last(*calls, ("surviving_places", 8)), [2, 0, 1])
        self.assertEqual(last(*calls, ("surviving_places", 9)), [1, 0])

    def test_blocked_roads_do_not_count(self):
        calls = town(2, [1], (0, 1), (0, 1)) + [("block_road", 0)]
        self.assertEqual(last(*calls, ("surviving_places", 0)), [2, 0, 1])
        self.assertEqual(last(*calls, ("surviving_places", 1)), [1, 1])

    def test_no_failure_leaves_the_reachable_places(self):
        self.assertEqual(last(*town(4, [3], (1, 3)), ("surviving_places", 0)), [2, 1, 3])
        self.assertEqual(last(*town(4, [], (1, 3)), ("surviving_places", 0)), [0])


if __name__ == "__main__":
    unittest.main()
