import unittest

from tests.calling import ask, last, town

SEEN = [("list_roads",), ("travel_times",), ("summary",)]


class BestAdditionalStore(unittest.TestCase):
    def test_the_smallest_greatest_travel_time(self):
        calls = town(5, [0], *[(place, place + 1, 5, 1) for place in range(4)])
        self.assertEqual(last(*calls, ("best_additional_store",)), [3, 5])
        calls = town(4, [0], (0, 1, 1, 1), (1, 2, 8, 1), (2, 3, 5, 1))
        self.assertEqual(last(*calls, ("best_additional_store",)), [2, 5])

    def test_the_first_store(self):
        calls = town(5, [], *[(place, place + 1, 5, 1) for place in range(4)])
        self.assertEqual(last(*calls, ("best_additional_store",)), [2, 10])

    def test_a_tie_goes_to_the_smaller_place(self):
        self.assertEqual(last(*town(2, [], (0, 1, 7, 1)), ("best_additional_store",)), [0, 7])
        calls = town(4, [3], (3, 0, 5, 1), (3, 1, 9, 1), (3, 2, 9, 1))
        self.assertEqual(last(*calls, ("best_additional_store",)), [0, 9])

    def test_a_place_with_a_store(self):
        self.assertEqual(last(*town(1, [0]), ("best_additional_store",)), [0, 0])
        self.assertEqual(last(*town(7, range(7)), ("best_additional_store",)), [0, 0])
        # A second store anywhere is of no use: two places are as far off as before.
        calls = town(3, [0], (0, 1, 6, 1), (0, 2, 6, 1))
        self.assertEqual(last(*calls, ("best_additional_store",)), [0, 6])
        calls = town(4, [1, 2], (1, 0, 6, 1), (2, 3, 6, 1))
        self.assertEqual(last(*calls, ("best_additional_store",)), [0, 6])

    def test_the_one_place_that_makes_all_reachable(self):
        self.assertEqual(last(*town(3, [0], (0, 1, 4, 1)), ("best_additional_store",)), [2, 4])
        calls = town(4, [0], (0, 1, 4, 1), (2, 3, 9, 1))
        self.assertEqual(last(*calls, ("best_additional_store",)), [2, 9])
        self.assertEqual(ask(("create", 1), ("best_additional_store",)), [[0], [0, 0]])

    def test_blocked_roads_are_not_used(self):
        calls = town(3, [0], (0, 1, 4, 1), (1, 2, 3, 1)) + [("block_road", 0)]
        self.assertEqual(last(*calls, ("best_additional_store",)), [1, 3])

    def test_undefined_for_every_place(self):
        for calls in ([("create", 2)], town(3, [0]), town(3, [], (0, 1)), town(4, [0], (0, 1))):
            with self.subTest(calls=calls):
                given = ask(*calls, *SEEN, ("best_additional_store",), *SEEN)
                self.assertEqual(given[-4], [-33])
                self.assertEqual(given[-3:], given[-7:-4])

    def test_the_instance_is_not_changed(self):
        calls = town(5, [0], *[(place, place + 1, 5, 1) for place in range(4)])
        given = ask(*calls, *SEEN, ("best_additional_store",), *SEEN, ("set_store", 3, 1))
        self.assertEqual(given[-4:-1], given[-8:-5])
        self.assertEqual(given[-1], [0])


class Summary(unittest.TestCase):
    def test_a_new_instance(self):
        for count in range(1, 8):
            self.assertEqual(ask(("create", count), ("summary",)), [[0], [count, 0, 0, 0]])

    def test_the_roads(self):
        calls = town(3, [], (0, 1), (1, 2), (0, 2), (0, 2))
        self.assertEqual(last(*calls, ("summary",)), [3, 4, 4, 0])
        calls += [("block_road", 1), ("block_road", 3), ("summary",)]
        self.assertEqual(last(*calls), [3, 4, 2, 0])
        self.assertEqual(last(*calls, ("remove_road", 1), ("summary",)), [3, 3, 2, 0])
        self.assertEqual(last(*calls, ("repair_road", 1), ("summary",)), [3, 4, 3, 0])

    def test_the_stores(self):
        for stores, store_set in (([], 0), ([0], 1), ([1], 2), ([6], 64), ([5, 0, 3], 41), (range(7), 127)):
            self.assertEqual(last(*town(7, stores), ("summary",)), [7, 0, 0, store_set])
        self.assertEqual(last(*town(7, [2, 4]), ("set_store", 4, 0), ("set_store", 2, 1), ("summary",)), [7, 0, 0, 4])


if __name__ == "__main__":
    unittest.main()
