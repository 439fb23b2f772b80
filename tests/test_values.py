"""value, cards and line: what can be made, with which cards."""

import unittest

from calls import BACK, CARDS, LINE, TURN, VALUE, EndingCase, deal, play, plays, run
from plain import Plain, random_hands, seeded
from walks import along, kinds

# Seat 2 has the highest and the third highest card, the second highest is ahead of it or behind it.
KING_AHEAD = deal(4, 0, [0, 1], [11, 2], [12, 10], [3, 4])
KING_BEHIND = deal(4, 0, [0, 1], [3, 4], [12, 10], [11, 2])

# The third to play must take the trick with the higher card; the lower one wins the next.
MUST_TAKE_SIDE_0 = [deal(4, 0, [0, 13], [11, 14], [5, 12], [3, 15]), *plays(0, 11)]
MUST_TAKE_SIDE_1 = [deal(4, 1, [3, 15], [0, 13], [11, 14], [5, 12]), *plays(0, 11)]


class Value(EndingCase):
    def test_no_card(self):
        for leader in range(4):
            self.assertEqual(self.last(deal(4, leader, [], [], [], []), VALUE), [0, 0])

    def test_one_card_each(self):
        hands = [[12], [13], [26], [39]]
        told = [self.last(deal(trump, 0, *hands), VALUE) for trump in range(5)]
        self.assertEqual(told, [[0, 1], [0, 0], [0, 1], [0, 0], [0, 1]])
        told = [self.last(deal(4, leader, *hands), VALUE) for leader in range(4)]
        self.assertEqual(told, [[0, 1], [0, 0], [0, 1], [0, 0]])

    def test_where_the_second_highest_sits(self):
        self.assertEqual(self.last(KING_AHEAD, VALUE), [0, 2])
        self.assertEqual(self.last(KING_BEHIND, VALUE), [0, 1])

    def test_four_sure_tricks(self):
        hands = [[9, 10, 11, 12], [5, 6, 7, 8], [1, 2, 3, 4], [13, 14, 15, 16]]
        told = [self.last(deal(4, leader, *hands), VALUE) for leader in (0, 1, 2)]
        self.assertEqual(told, [[0, 4], [0, 4], [0, 4]])
        self.assertEqual(self.last(deal(4, 3, *hands), VALUE), [0, 0])
        self.assertEqual(self.last(deal(1, 0, *hands), VALUE), [0, 0])

    def test_counts_the_begun_trick_and_no_whole_one(self):
        ahead = [deal(4, 0, [12, 11], [0, 1], [2, 3], [4, 5])]
        told = run(*ahead, play(12), VALUE, *plays(0, 2), VALUE, play(4), VALUE, TURN)
        self.assertEqual([told[2], told[5], told[7]], [[0, 2], [0, 2], [0, 1]])
        self.assertEqual(told[8], [0, 0, 1, 0, 1, 11])

    def test_behind_the_last_card(self):
        self.assertEqual(self.last(deal(4, 0, [3], [0], [1], [2]), *plays(3, 0, 1, 2), VALUE), [0, 0])


class Cards(EndingCase):
    def test_no_card_left(self):
        self.assertEqual(self.last(deal(4, 1, [], [], [], []), CARDS), [0, 0])
        self.assertEqual(self.last(deal(4, 0, [3], [0], [1], [2]), *plays(3, 0, 1, 2), CARDS), [0, 0])

    def test_each_card_that_may_be_played_in_rising_order(self):
        self.assertEqual(self.last(KING_AHEAD, CARDS), [0, 2, 0, 2, 1, 2])
        self.assertEqual(self.last(KING_AHEAD, *plays(0, 2), CARDS), [0, 2, 10, 2, 12, 1])

    def test_for_either_side_in_the_midst_of_a_trick(self):
        self.assertEqual(self.last(*MUST_TAKE_SIDE_0, CARDS), [0, 2, 5, 0, 12, 2])
        self.assertEqual(self.last(*MUST_TAKE_SIDE_1, CARDS), [0, 2, 5, 2, 12, 0])

    def test_only_cards_of_the_suit_that_must_be_followed(self):
        self.assertEqual(self.last(deal(4, 0, [0, 13], [11, 14], [5, 12], [3, 15]), play(0), CARDS), [0, 1, 11, 2])

    def test_counts_the_trick_that_the_card_makes_whole(self):
        ahead = [deal(4, 1, [5, 9], [6, 0], [1, 2], [3, 4]), *plays(6, 1, 3)]
        self.assertEqual(self.last(*ahead, CARDS), [0, 2, 5, 1, 9, 2])


class Line(EndingCase):
    def test_no_card_left(self):
        self.assertEqual(self.last(deal(4, 1, [], [], [], []), LINE), [0, 0])
        self.assertEqual(self.last(deal(4, 0, [3], [0], [1], [2]), *plays(3, 0, 1, 2), LINE), [0, 0])

    def test_of_several_that_keep_the_least(self):
        self.assertEqual(self.last(KING_AHEAD, LINE), [0, 8, 0, 2, 10, 3, 12, 4, 1, 11])

    def test_not_the_least_where_it_does_not_keep(self):
        self.assertEqual(self.last(*MUST_TAKE_SIDE_0, LINE), [0, 6, 12, 3, 5, 15, 13, 14])
        self.assertEqual(self.last(*MUST_TAKE_SIDE_1, LINE), [0, 6, 12, 3, 5, 15, 13, 14])

    def test_changes_nothing(self):
        told = run(*MUST_TAKE_SIDE_0, TURN, LINE, TURN, LINE, BACK)
        self.assertEqual(told[3], told[5])
        self.assertEqual(told[4], told[6])
        self.assertEqual(told[7], [0, 1, 0, 0])

    def test_played_makes_the_value(self):
        chance = seeded(5)
        for trump in range(5):
            call = deal(trump, trump % 4, *random_hands(chance, 4))
            value, line = run(call, VALUE, LINE)[1:]
            self.assertEqual(line[1], 16)
            told = run(call, *plays(*line[2:]))
            self.assertEqual(told[-1][2:], [value[1], 4 - value[1]])


class AgainstThePlainSearch(EndingCase):
    """The program's answers held against a search over all plays."""

    def same(self, plain, ahead):
        told = run(*ahead, VALUE, CARDS, LINE)[-3:]
        self.assertEqual(told, [[0, plain.value()], plain.told_cards(), plain.told_line()])

    def all_along(self, *chosen):
        """An ending played by chance, asked at its deal and behind each card."""
        for plain, ahead in along(*chosen):
            self.same(plain, ahead)

    def test_up_to_three_cards_with_each_trump_and_leader(self):
        chance = seeded(7)
        for size, trump, leader in kinds(range(4)):
            self.all_along(chance, size, trump, leader)

    def test_three_cards_of_two_suits(self):
        chance = seeded(8)
        for trump in (0, 1, 4):
            for leader in range(4):
                self.all_along(chance, 3, trump, leader, range(6, 20))

    def test_four_cards_with_each_trump_and_leader(self):
        chance = seeded(9)
        for trump, leader in [(0, 0), (1, 1), (2, 2), (3, 3), (4, 0), (4, 1)]:
            self.all_along(chance, 4, trump, leader, range(3, 36))

    def test_several_deals_within_one_list(self):
        chance = seeded(10)
        hands = random_hands(chance, 3)
        calls = []
        expected = []
        for trump, leader in [(0, 0), (4, 0), (1, 0), (1, 3), (1, 2), (0, 0)]:
            calls += [deal(trump, leader, *hands), CARDS]
            expected += [[0], Plain(trump, leader, hands).told_cards()]
        self.assertEqual(run(*calls), expected)


if __name__ == "__main__":
    unittest.main()
