"""told: all that is held."""

import unittest

from calls import BACK, TOLD, EndingCase, account, deal, play, plays, run
from plain import seeded
from walks import along, kinds

HANDS = [[13, 0, 5], [14, 26, 1], [28, 27, 39], [41, 40, 2]]
RISING = [3, 0, 5, 13, 3, 1, 14, 26, 3, 27, 28, 39, 3, 2, 40, 41]
DEALT = deal(4, 0, *HANDS)


class Told(EndingCase):
    def test_before_any_deal_there_is_no_trump_and_seat_0_leads(self):
        self.assertEqual(run(TOLD), [[0, 4, 0, 0, 0, 0, 0, 0, 0]])

    def test_trump_and_leader_as_dealt_and_hands_in_rising_order(self):
        for trump in range(5):
            for leader in range(4):
                told = self.last(deal(trump, leader, *HANDS), TOLD)
                self.assertEqual(told, [0, trump, leader] + RISING + [0, 0])

    def test_empty_hands(self):
        self.assertEqual(self.last(deal(2, 3, [], [], [], []), TOLD), [0, 2, 3, 0, 0, 0, 0, 0, 0])

    def test_behind_plays(self):
        told = self.last(DEALT, *plays(5, 1), TOLD)
        self.assertEqual(told, [0, 4, 0, 2, 0, 13, 2, 14, 26, 3, 27, 28, 39, 3, 2, 40, 41, 2, 5, 1, 2, 5, 1])

    def test_the_leader_leads_until_the_trick_is_whole(self):
        told = run(deal(4, 3, *HANDS), play(2), TOLD, play(0), TOLD, play(1), TOLD, play(39), TOLD)
        self.assertEqual([answer[2] for answer in told[2::2]], [3, 3, 3, 3])
        told = run(deal(4, 3, *HANDS), play(2), TOLD, play(5), TOLD, play(1), TOLD, play(39), TOLD)
        self.assertEqual([answer[2] for answer in told[2::2]], [3, 3, 3, 0])

    def test_behind_a_whole_trick(self):
        told = self.last(DEALT, *plays(0, 1, 27, 2), TOLD)
        self.assertEqual(told, [0, 4, 3, 2, 5, 13, 2, 14, 26, 2, 28, 39, 2, 40, 41, 0, 4, 0, 1, 27, 2])

    def test_the_trick_and_all_played_are_told_in_the_order_of_play(self):
        told = self.last(DEALT, *plays(0, 1, 27, 2, 40, 13), TOLD)
        self.assertEqual(told, [0, 4, 3, 1, 5, 2, 14, 26, 2, 28, 39, 1, 41, 2, 40, 13, 6, 0, 1, 27, 2, 40, 13])

    def test_behind_the_last_card_its_winner_leads(self):
        told = self.last(deal(4, 2, [3], [0], [1], [2]), *plays(1, 2, 3, 0), TOLD)
        self.assertEqual(told, [0, 4, 0, 0, 0, 0, 0, 0, 4, 1, 2, 3, 0])

    def test_behind_back(self):
        told = run(DEALT, *plays(0, 1, 27, 2), TOLD, play(40), BACK, TOLD, BACK, TOLD, *[BACK] * 3, TOLD)
        self.assertEqual(told[8], told[5])
        self.assertEqual(told[10], [0, 4, 0, 2, 5, 13, 2, 14, 26, 2, 28, 39, 3, 2, 40, 41, 3, 0, 1, 27, 3, 0, 1, 27])
        self.assertEqual(told[14], [0, 4, 0] + RISING + [0, 0])

    def test_behind_a_second_deal(self):
        told = self.last(DEALT, *plays(0, 1, 27, 2, 40), deal(1, 2, [7], [6], [5], [4]), TOLD)
        self.assertEqual(told, [0, 1, 2, 1, 7, 1, 6, 1, 5, 1, 4, 0, 0])

    def test_behind_refused_calls(self):
        ahead = [DEALT, *plays(0, 1)]
        refused = [play(52), play(50), account(2), deal(0, 4, *HANDS), deal(0, 0, [1], [], [], [])]
        told = run(*ahead, TOLD, *refused, TOLD)
        self.assertEqual(told[4:9], [[-1], [-4], [-6], [-1], [-2]])
        self.assertEqual(told[9], told[3])

    def test_changes_nothing(self):
        for ahead in ([], [DEALT], [DEALT, *plays(0, 1, 27, 2, 40)]):
            self.assertEqual(self.state_behind(*ahead, TOLD), self.state_behind(*ahead))

    def test_all_along_each_size_trump_and_leader(self):
        chance = seeded(61)
        for size, trump, leader in kinds(range(5)):
            forward = []
            for plain, ahead in along(chance, size, trump, leader):
                told = plain.told_told()
                forward.append(told)
                self.assertEqual(self.last(*ahead, TOLD), told)
            taken_back = run(*ahead, *[BACK, TOLD] * (4 * size))[len(ahead) + 1::2]
            self.assertEqual(taken_back, forward[-2::-1])


if __name__ == "__main__":
    unittest.main()
