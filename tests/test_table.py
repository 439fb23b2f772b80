"""table: the value of the hands with each trump and each leader."""

import unittest

from calls import BACK, TABLE, TOLD, VALUE, EndingCase, deal, play, plays, run
from plain import seeded
from walks import along, kinds

# The hands of one card each, of four suits: a trump wins whoever leads, else whoever leads wins.
FOUR_SUITS = [[12], [13], [26], [39]]
FOUR_SUITS_TABLE = [0, 1, 1, 1, 1, 0, 0, 0, 0, 1, 1, 1, 1, 0, 0, 0, 0, 1, 0, 1, 0]

# Seat 2 has the highest and the third highest card, and seat 1 the one between: seat 2 would better not lead.
ONE_SUIT = [[0, 1], [11, 2], [12, 10], [3, 4]]
ONE_SUIT_TABLE = [0] + [2, 2, 1, 2] * 5

FOUR_EACH = [[9, 10, 11, 12], [5, 6, 7, 8], [1, 2, 3, 4], [13, 14, 15, 16]]


class Table(EndingCase):
    def test_before_any_deal(self):
        self.assertEqual(run(TABLE), [[0] * 21])

    def test_no_cards(self):
        self.assertEqual(self.last(deal(2, 3, [], [], [], []), TABLE), [0] * 21)
        self.assertEqual(self.last(deal(0, 0, *FOUR_SUITS), *plays(12, 13, 26, 39), TABLE), [0] * 21)

    def test_in_the_order_of_trumps_and_for_each_of_leaders(self):
        self.assertEqual(self.last(deal(4, 0, *FOUR_SUITS), TABLE), FOUR_SUITS_TABLE)
        self.assertEqual(self.last(deal(4, 0, *ONE_SUIT), TABLE), ONE_SUIT_TABLE)

    def test_whatever_trump_and_leader_the_ending_has(self):
        for trump in range(5):
            for leader in range(4):
                self.assertEqual(self.last(deal(trump, leader, *FOUR_SUITS), TABLE), FOUR_SUITS_TABLE)

    def test_twelve_cards(self):
        hands = [hand[:3] for hand in FOUR_EACH]
        self.assertEqual(self.last(deal(1, 2, *hands), TABLE), self.values_one_by_one(hands))

    def test_twelve_cards_behind_a_whole_trick(self):
        hands = [hand[1:] for hand in FOUR_EACH]
        told = self.last(deal(1, 0, *FOUR_EACH), *plays(9, 5, 1, 13), TABLE)
        self.assertEqual(told, self.values_one_by_one(hands))

    def values_one_by_one(self, hands):
        """What value answers, each trump and leader dealt on its own."""
        values = []
        for trump in range(5):
            for leader in range(4):
                values += self.last(deal(trump, leader, *hands), VALUE)[1:]
        return [0] + values

    def test_behind_back(self):
        told = run(deal(4, 0, *FOUR_SUITS), play(12), TABLE, BACK, TABLE)
        self.assertEqual([told[2], told[4]], [[-7], FOUR_SUITS_TABLE])

    def test_counts_no_trick_that_was_won(self):
        hands = [[12, 0], [13, 1], [26, 2], [39, 3]]
        told = self.last(deal(4, 0, *hands), *plays(0, 1, 2, 3), TABLE)
        self.assertEqual(told, FOUR_SUITS_TABLE)
        told = self.last(deal(4, 0, [12, 3], [13, 1], [26, 2], [39, 0]), *plays(3, 1, 2, 0), TABLE)
        self.assertEqual(told, FOUR_SUITS_TABLE)

    def test_changes_nothing(self):
        for ahead in ([], [deal(3, 2, *FOUR_SUITS)], [deal(2, 0, *ONE_SUIT), *plays(0, 2, 10, 3)]):
            self.assertEqual(self.state_behind(*ahead, TABLE), self.state_behind(*ahead))
        told = run(deal(3, 2, *FOUR_SUITS), TOLD, TABLE, TOLD, VALUE)
        self.assertEqual([told[1], told[4]], [told[3], [0, 0]])

    def test_up_to_three_cards_against_the_plain_search(self):
        chance = seeded(31)
        for size, trump, leader in kinds(range(4)):
            for plain, ahead in along(chance, size, trump, leader, range(3, 30)):
                self.assertEqual(self.last(*ahead, TABLE), [-7] if plain.trick else plain.told_table())


class TableRefused(EndingCase):
    def test_sixteen_cards(self):
        for trump in range(5):
            self.assert_refused([deal(trump, trump % 4, *FOUR_EACH)], TABLE, -7)

    def test_a_begun_trick(self):
        for size in range(1, 5):
            hands = [hand[:size] for hand in FOUR_EACH]
            for played in range(1, 4):
                self.assert_refused([deal(4, 0, *hands), *plays(*[9, 5, 1][:played])], TABLE, -7)

    def test_a_begun_trick_behind_a_whole_one(self):
        self.assert_refused([deal(4, 0, *FOUR_EACH), *plays(9, 5, 1, 13, 10)], TABLE, -7)
        self.assert_refused([deal(4, 0, *ONE_SUIT), *plays(0, 2, 10, 3, 12, 4, 1)], TABLE, -7)


if __name__ == "__main__":
    unittest.main()
