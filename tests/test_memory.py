"""A meter's two banks, written word by word."""

import unittest

from postmeters.memory import Memory


class Banks(unittest.TestCase):
    def test_at_first(self):
        memory = Memory()
        self.assertEqual((memory.first, memory.second), ([1, 0, 0, 0, 0], [0, 0, 0, 0, 0]))

    def test_which_counts(self):
        memory = Memory()
        for first, second, right in ((1, 0, 1), (1, 2, 2), (3, 2, 1), (3, 0, 1), (0, 2, 2), (4, 4, 1)):
            memory.first[0] = first
            memory.second[0] = second
            counting = memory.first if right == 1 else memory.second
            spare = memory.second if right == 1 else memory.first
            self.assertIs(memory.counting_bank(), counting)
            self.assertIs(memory.spare_bank(), spare)

    def test_each_cut(self):
        steps = [
            [9, 8, 7, 6, 5], [0, 8, 7, 6, 5], [0, 10, 7, 6, 5], [0, 10, 20, 6, 5], [0, 10, 20, 30, 5],
            [0, 10, 20, 30, 40], [13, 10, 20, 30, 40], [13, 10, 20, 30, 40],
        ]
        for k, bank in enumerate(steps):
            for turned in (False, True):
                with self.subTest(k=k, turned=turned):
                    memory = Memory()
                    memory.first = [9, 8, 7, 6, 5] if turned else [12, 1, 2, 3, 4]
                    memory.second = [12, 1, 2, 3, 4] if turned else [9, 8, 7, 6, 5]
                    memory.write(10, 20, 30, 40, k)
                    self.assertEqual(memory.first if turned else memory.second, bank)
                    self.assertEqual(memory.second if turned else memory.first, [12, 1, 2, 3, 4])
