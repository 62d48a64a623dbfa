import unittest

from othersknow.values import climbs, copied, is_count, is_index, is_list, is_number, is_pair

OTHERS = [True, False, None, "1", "", (), (1,), [], [1]]


class Numbers(unittest.TestCase):
    def test_integers_are_numbers(self):
        for value in (0, 1, -1, 10 ** 31, -10 ** 31):
            self.assertIs(is_number(value), True)

    def test_all_other_values_are_none(self):
        for value in OTHERS:
            self.assertIs(is_number(value), False)
            self.assertIs(is_index(value, 5), False)
            self.assertIs(is_count(value), False)

    def test_indexes_begin_with_0_and_end_before_the_size(self):
        self.assertEqual([value for value in range(-3, 9) if is_index(value, 4)], [0, 1, 2, 3])
        self.assertFalse(is_index(0, 0))

    def test_counts_reach_to_ten_to_the_thirtieth(self):
        self.assertTrue(is_count(0) and is_count(10 ** 30))
        self.assertFalse(is_count(-1) or is_count(10 ** 30 + 1))


class Pairs(unittest.TestCase):
    def test_a_pair_is_a_tuple_of_two_numbers(self):
        values = [(one, other) for one in range(-1, 4) for other in range(-1, 4)]
        self.assertEqual([value for value in values if is_pair(value, 2)], [(0, 0), (0, 1), (1, 0), (1, 1)])
        for value in (*OTHERS, [0, 1], (0,), (0, 1, 0), (True, 0), (0, False), (0, None), "01", ((0, 1),), ("0", "1")):
            self.assertIs(is_pair(value, 2), False)

    def test_what_climbs(self):
        for items in ([], [3], [0, 1], (0, 1, 2), "ace", [-5, 0, 7]):
            self.assertIs(climbs(items), True)
        for items in ([1, 0], [0, 0], (0, 1, 1), (0, 2, 1), "aa", "acb"):
            self.assertIs(climbs(items), False)


class Lists(unittest.TestCase):
    def test_a_tuple_stands_for_a_list(self):
        self.assertEqual([is_list(value) for value in ([], [1], (), (1,))], [True] * 4)
        self.assertEqual([is_list(value) for value in (None, 1, True, "ab")], [False] * 4)

    def test_a_copy_has_new_lists_at_every_depth(self):
        inner = [1]
        value = [inner, (inner, "a"), None, True]
        same = copied(value)
        self.assertEqual(same, value)
        self.assertIs(same[3], True)
        inner.append(2)
        self.assertEqual(same, [[1], ([1], "a"), None, True])


if __name__ == "__main__":
    unittest.main()
