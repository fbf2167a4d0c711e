import unittest

from tests.calling import HIGHEST, ask, last, town


class DisjointRouteCount(unittest.TestCase):
    def test_a_chain(self):
        calls = town(3, [0], (0, 1), (1, 2))
        self.assertEqual(last(*calls, ("disjoint_route_count", 2)), [1])

    def test_several_roads_between_the_same_places(self):
        self.assertEqual(last(*town(2, [1], *[(0, 1)] * 9), ("disjoint_route_count", 0)), [9])
        calls = town(3, [0], *[(0, 1)] * 5, *[(2, 1)] * 4)
        self.assertEqual(last(*calls, ("disjoint_route_count", 1)), [5])
        self.assertEqual(last(*calls, ("disjoint_route_count", 2)), [4])

    def test_routes_may_share_a_place(self):
        calls = town(4, [0], (0, 1), (0, 1), (1, 2), (1, 2))
        self.assertEqual(last(*calls, ("disjoint_route_count", 2)), [2])

    def test_routes_of_several_stores(self):
        calls = town(4, [0, 1, 2], (0, 3), (1, 3), (2, 3), (0, 1))
        self.assertEqual(last(*calls, ("disjoint_route_count", 3)), [3])

    def test_a_route_that_takes_the_way_of_another(self):
        # The way over the middle road, taken first, has to give that road up.
        for middle in ((1, 2), (2, 1)):
            calls = town(4, [0], (0, 1), middle, (2, 3), (0, 2), (1, 3))
            self.assertEqual(last(*calls, ("disjoint_route_count", 3)), [2])

    def test_a_route_that_is_rerouted_over_a_longer_way(self):
        calls = town(6, [0], (0, 1), (1, 4), (4, 5), (0, 3), (3, 4), (1, 2), (2, 5))
        self.assertEqual(last(*calls, ("disjoint_route_count", 5)), [2])

    def test_blocked_roads_are_not_used(self):
        calls = town(2, [0], (0, 1), (0, 1), (0, 1)) + [("block_road", 1)]
        self.assertEqual(last(*calls, ("disjoint_route_count", 1)), [2])
        self.assertEqual(last(*calls, ("repair_road", 1), ("disjoint_route_count", 1)), [3])

    def test_not_reachable(self):
        self.assertEqual(last(*town(2, [], (0, 1)), ("disjoint_route_count", 1)), [0])
        self.assertEqual(last(*town(3, [0], (1, 2)), ("disjoint_route_count", 1)), [0])
        self.assertEqual(ask(("create", 1), ("disjoint_route_count", 0)), [[0], [0]])

    def test_a_place_with_a_store(self):
        self.assertEqual(last(*town(2, [0], (0, 1)), ("disjoint_route_count", 0)), [-33])
        for place in range(7):
            self.assertEqual(last(*town(7, range(7)), ("disjoint_route_count", place)), [-33])

    def test_no_such_place(self):
        for place in (2, 7, HIGHEST):
            self.assertEqual(last(*town(2, [0, 1]), ("disjoint_route_count", place)), [-2])


if __name__ == "__main__":
    unittest.main()
