"""can: whether a side can make sure of so many tricks."""

import unittest

from calls import FAR, EndingCase, can, deal, plays, run
from plain import seeded
from walks import along, kinds

# Of two tricks side 0 makes both, or one, as the second highest card sits.
BOTH = deal(4, 0, [0, 1], [11, 2], [12, 10], [3, 4])
ONE = deal(4, 0, [0, 1], [3, 4], [12, 10], [11, 2])

ALL_FOUR = deal(4, 0, [9, 10, 11, 12], [5, 6, 7, 8], [1, 2, 3, 4], [13, 14, 15, 16])
NONE_OF_FOUR = deal(1, 0, [9, 10, 11, 12], [5, 6, 7, 8], [1, 2, 3, 4], [13, 14, 15, 16])


class Can(EndingCase):
    def sure(self, *ahead):
        """For side 0 and for side 1, what's answered for k from 0 to 4."""
        sides = []
        for side in (0, 1):
            told = run(*ahead, *[can(side, k) for k in range(5)])[len(ahead):]
            self.assertEqual([answer[:-1] for answer in told], [[0]] * 5)
            sides.append([answer[-1] for answer in told])
        return sides

    def test_no_card(self):
        self.assertEqual(self.sure(), [[1, 0, 0, 0, 0], [1, 0, 0, 0, 0]])
        self.assertEqual(self.sure(deal(2, 3, [], [], [], [])), [[1, 0, 0, 0, 0], [1, 0, 0, 0, 0]])

    def test_either_side(self):
        self.assertEqual(self.sure(BOTH), [[1, 1, 1, 0, 0], [1, 0, 0, 0, 0]])
        self.assertEqual(self.sure(ONE), [[1, 1, 0, 0, 0], [1, 1, 0, 0, 0]])

    def test_all_tricks_or_none(self):
        self.assertEqual(self.sure(ALL_FOUR), [[1, 1, 1, 1, 1], [1, 0, 0, 0, 0]])
        self.assertEqual(self.sure(NONE_OF_FOUR), [[1, 0, 0, 0, 0], [1, 1, 1, 1, 1]])

    def test_a_begun_trick_counts(self):
        one_each = deal(4, 0, [3], [0], [1], [2])
        for played in ([], [3], [3, 0], [3, 0, 1]):
            self.assertEqual(self.sure(one_each, *plays(*played)), [[1, 1, 0, 0, 0], [1, 0, 0, 0, 0]])
        one_each = deal(4, 0, [0], [3], [1], [2])
        for played in ([], [0], [0, 3], [0, 3, 1]):
            self.assertEqual(self.sure(one_each, *plays(*played)), [[1, 0, 0, 0, 0], [1, 1, 0, 0, 0]])

    def test_whole_tricks_do_not_count(self):
        self.assertEqual(self.sure(BOTH, *plays(0, 2, 10, 3)), [[1, 1, 0, 0, 0], [1, 0, 0, 0, 0]])
        self.assertEqual(self.sure(BOTH, *plays(0, 2, 10, 3, 12)), [[1, 1, 0, 0, 0], [1, 0, 0, 0, 0]])
        self.assertEqual(self.sure(BOTH, *plays(0, 2, 10, 3, 12, 4, 1, 11)), [[1, 0, 0, 0, 0], [1, 0, 0, 0, 0]])

    def test_changes_nothing(self):
        for ahead in ([], [ONE], [ONE, *plays(0, 3)]):
            for side in (0, 1):
                self.assertEqual(self.state_behind(*ahead, can(side, 1)), self.state_behind(*ahead))

    def test_against_the_plain_search(self):
        chance = seeded(51)
        for size, trump, leader in kinds(range(4)):
            for plain, ahead in along(chance, size, trump, leader, range(6, 28)):
                expected = [[int(plain.sure(side, k)) for k in range(5)] for side in (0, 1)]
                self.assertEqual(self.sure(*ahead), expected)

    def test_four_cards_against_the_plain_search(self):
        chance = seeded(52)
        for trump, leader in [(0, 1), (1, 2), (3, 3), (4, 0), (4, 3)]:
            for plain, ahead in list(along(chance, 4, trump, leader, range(6, 28)))[:3]:
                expected = [[int(plain.sure(side, k)) for k in range(5)] for side in (0, 1)]
                self.assertEqual(self.sure(*ahead), expected)


class CanRefused(EndingCase):
    def test_side_out_of_range(self):
        for side in (-1, 2, -FAR, FAR):
            for k in (0, 4):
                self.assert_refused([ONE], can(side, k), -1)
            self.assert_refused([], can(side, 0), -1)

    def test_k_out_of_range(self):
        for k in (-1, 5, -FAR, FAR):
            for side in (0, 1):
                self.assert_refused([ONE], can(side, k), -1)
                self.assert_refused([], can(side, k), -1)

    def test_both_out_of_range(self):
        self.assert_refused([ONE], can(2, 5), -1)


if __name__ == "__main__":
    unittest.main()
