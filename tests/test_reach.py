import unittest

from tests.calling import ask, last, town


def reach(calls):
    """What both questions answer, the reachable places first."""
    return ask(*calls, ("reachable_places",), ("unreachable_places",))[-2:]


class ListRoads(unittest.TestCase):
    def test_none(self):
        self.assertEqual(ask(("create", 1), ("list_roads",)), [[0], [0]])

    def test_the_ends_as_they_were_passed(self):
        calls = town(3, [], (2, 1, 5, 50), (0, 2, 20, 1), (1, 2, 3, 4))
        self.assertEqual(
            last(*calls, ("block_road", 1), ("list_roads",)),
            [3, 2, 1, 5, 50, 0, 0, 2, 20, 1, 1, 1, 2, 3, 4, 0],
        )

    def test_nine_roads(self):
        roads = [(number % 6, 6, number + 1, 50 - number) for number in range(9)]
        expected = [9]
        for road in roads:
            expected += [*road, 0]
        self.assertEqual(last(*town(7, [], *roads), ("list_roads",)), expected)


class Reach(unittest.TestCase):
    def test_no_store(self):
        self.assertEqual(reach(town(3, [], (0, 1), (1, 2))), [[0], [3, 0, 1, 2]])

    def test_every_place_with_a_store(self):
        self.assertEqual(reach(town(3, [2, 0, 1])), [[3, 0, 1, 2], [0]])

    def test_one_place(self):
        self.assertEqual(reach(town(1, [])), [[0], [1, 0]])
        self.assertEqual(reach(town(1, [0])), [[1, 0], [0]])

    def test_seven_places(self):
        calls = town(7, [3], (6, 3), (0, 6), (5, 0), (2, 4))
        self.assertEqual(reach(calls), [[4, 0, 3, 5, 6], [3, 1, 2, 4]])

    def test_roads_lead_in_both_directions(self):
        self.assertEqual(reach(town(3, [2], (0, 1), (1, 2))), [[3, 0, 1, 2], [0]])
        self.assertEqual(reach(town(3, [0], (0, 1), (1, 2))), [[3, 0, 1, 2], [0]])

    def test_blocked_roads_are_not_used(self):
        calls = town(4, [0], (0, 1), (1, 2), (2, 3)) + [("block_road", 1)]
        self.assertEqual(reach(calls), [[2, 0, 1], [2, 2, 3]])

    def test_several_stores(self):
        self.assertEqual(reach(town(5, [0, 4], (0, 1), (3, 4))), [[4, 0, 1, 3, 4], [1, 2]])

    def test_a_ring(self):
        self.assertEqual(reach(town(4, [1], (0, 1), (1, 2), (2, 0))), [[3, 0, 1, 2], [1, 3]])


if __name__ == "__main__":
    unittest.main()
