import unittest

from othersknow.values import copied, is_count, is_index, is_list, is_number

OTHERS = [True, False, None, "1", "", (), (1,), [], [1]]


class Numbers(unittest.TestCase):
    def test_integers_are_numbers(self):
        for value in (0, 1, -1, 10 ** 31, -10 ** 31):
            self.assertIs(is_number(value), True)

    def test_all_other_values_are_none(self):
        for value in OTHERS:
            self.assertIs(is_number(value), False)
            self.assertIs(is_index(value, 5), False)
            self.assertIs(is_count(value), False)

    def test_indexes_begin_with_0_and_end_before_the_size(self):
        self.assertEqual([value for value in range(-3, 9) if is_index(value, 4)], [0, 1, 2, 3])
        self.assertFalse(is_index(0, 0))

    def test_counts_reach_to_ten_to_the_thirtieth(self):
        self.assertTrue(is_count(0) and is_count(10 ** 30))
        self.assertFalse(is_count(-1) or is_count(10 ** 30 + 1))


class Lists(unittest.TestCase):
    def test_a_tuple_stands_for_a_list(self):
        self.assertEqual([is_list(value) for value in ([], [1], (), (1,))], [True] * 4)
        self.assertEqual([is_list(value) for value in (None, 1, True, "ab")], [False] * 4)

    def test_a_copy_has_new_lists_at_every_depth(self):
        inner = [1]
        value = [inner, (inner, "a"), None, True]
        same = copied(value)
        self.assertEqual(same, value)
        self.assertIs(same[3], True)
        inner.append(2)
        self.assertEqual(same, [[1], ([1], "a"), None, True])


if __name__ == "__main__":
    unittest.main()
