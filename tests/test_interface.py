import unittest

from lastroads.network import answers
from tests.calling import NUMBERS, PARAMETERS, ask, flat, town

EXAMPLE = [
    (("create", 3), [0]),
    (("add_road", 0, 1, 4, 10), [0]),
    (("add_road", 1, 2, 3, 5), [1]),
    (("add_road", 0, 2, 9, 20), [2]),
    (("set_store", 0, 1), [0]),
    (("travel_times",), [3, 0, 4, 7]),
    (("fastest_route", 2), [3, 0, 1, 2]),
    (("minimum_cut", 2), [2, 0, 2]),
    (("surviving_places", 1), [3, 0, 1, 2]),
    (("block_road", 0), [0]),
    (("block_road", 2), [2]),
    (("cheapest_repair_plan",), [10, 0]),
    (("greatest_travel_time",), [-33]),
]


class Interface(unittest.TestCase):
    def test_the_example(self):
        self.assertEqual(ask(*[call for call, _ in EXAMPLE]), [answer for _, answer in EXAMPLE])

    def test_the_example_number_by_number(self):
        self.assertEqual(
            answers(
                [0, 3, 1, 0, 1, 4, 10, 1, 1, 2, 3, 5, 1, 0, 2, 9, 20, 5, 0, 1, 9, 12, 2]
                + [14, 2, 25, 1, 3, 0, 3, 2, 20, 11]
            ),
            [1, 0, 1, 0, 1, 1, 1, 2, 1, 0, 4, 3, 0, 4, 7, 4, 3, 0, 1, 2]
            + [3, 2, 0, 2, 4, 3, 0, 1, 2, 1, 0, 1, 2, 2, 10, 0, 1, -33],
        )

    def test_each_call_by_its_number(self):
        calls = [0, 2, 1, 0, 1, 5, 6, 5, 0, 1, 6, 7, 8, 9, 10, 1, 11, 12, 1, 13, 1, 3, 0, 8, 4, 0, 2, 0, 6]
        self.assertEqual(
            answers(calls),
            [1, 0, 1, 0, 1, 0, 6, 1, 0, 1, 5, 6, 0, 3, 2, 0, 1, 1, 0, 3, 2, 0, 5, 1, 5, 1, 5, 3, 2, 0, 1, 1, 1]
            + [1, 1, 2, 1, 1, 1, 6, 1, 0, 1, 0],
        )

    def test_each_later_call_by_its_number(self):
        calls = [0, 2, 1, 0, 1, 5, 6, 5, 0, 1, 14, 1, 15, 16, 17, 0, 18, 1, 19, 20, 24, 25, 0, 26]
        self.assertEqual(
            answers(calls),
            [1, 0, 1, 0, 1, 0, 2, 1, 0, 2, 1, 1, 2, 1, 0, 2, 1, -1, 2, 1, 0, 2, 0, 1, 1, 0, 2, 1, 0, 3, 2, 0, 1]
            + [4, 2, 1, 1, 1],
        )
        calls = [0, 2, 1, 0, 1, 5, 6, 5, 0, 1, 3, 0, 20, 22, 0, 23, 26, 21, 26]
        self.assertEqual(
            answers(calls),
            [1, 0, 1, 0, 1, 0, 1, 1, 2, 6, 0, 2, 1, 5, 2, 0, 1, 4, 2, 1, 0, 1, 1, 6, 4, 2, 1, 1, 1],
        )

    def test_the_list_handed_in_stays(self):
        calls = flat([call for call, _ in EXAMPLE])
        kept = list(calls)
        answers(calls)
        self.assertEqual(calls, kept)

    def test_a_second_call_starts_anew(self):
        calls = flat(town(2, [0], (0, 1)) + [("list_roads",), ("reachable_places",)])
        first = answers(calls)
        self.assertEqual(answers(calls), first)
        self.assertEqual(answers(flat([("list_roads",)])), [1, -11])
        self.assertEqual(
            answers(flat([("create", 2), ("list_roads",), ("reachable_places",)])), [1, 0, 1, 0, 1, 0]
        )

    def test_a_second_call_starts_anew_after_repairs(self):
        calls = flat(town(2, [0], (0, 1)) + [("block_road", 0), ("carry_out_repairs",), ("summary",)])
        first = answers(calls)
        self.assertEqual(first[-7:], [1, 1, 4, 2, 1, 1, 1])
        self.assertEqual(answers(calls), first)
        self.assertEqual(answers(flat([("carry_out_repairs",), ("summary",)])), [1, -11, 1, -11])
        self.assertEqual(answers(flat([("create", 2), ("summary",)])), [1, 0, 4, 2, 0, 0, 0])

    def test_the_list_handed_in_stays_whatever_is_called(self):
        for name in NUMBERS:
            call = (name, *[1] * PARAMETERS.get(name, 0))
            calls = flat(town(3, [0], (0, 1), (1, 2)) + [("block_road", 1), call, call])
            kept = list(calls)
            answers(calls)
            self.assertEqual(calls, kept)

    def test_the_answer_is_the_callers_own(self):
        calls = flat([("create", 1), ("list_roads",)])
        answers(calls).append(5)
        self.assertEqual(answers(calls), [1, 0, 1, 0])

    def test_one_call_and_forty(self):
        self.assertEqual(ask(("create", 1)), [[0]])
        self.assertEqual(ask(("create", 7), *[("travel_times",)] * 39)[-1], [7] + [-1] * 7)


if __name__ == "__main__":
    unittest.main()
