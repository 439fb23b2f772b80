"""alike and squeezed: how the cards of a suit stand to one another."""

import unittest

from calls import BACK, CARDS, NO_CARD_NUMBERS, SQUEEZED, VALUE, EndingCase, alike, deal, play, plays, run
from plain import random_hands, seeded
from walks import along, kinds

# Seat 1 has the 3 between seat 0's 2 and 4, and seat 3 the 7 between its 5 and 9.
PARTED = deal(4, 0, [2, 4, 5, 9], [3, 13, 14, 15], [26, 28, 29, 38], [7, 39, 40, 51])

# Seat 1 can play its 3, the only card that parts seat 0's, and seat 0 can follow with its 6.
PLAYED_BETWEEN = [deal(4, 1, [2, 4, 6], [3, 14, 15], [26, 27, 28], [39, 40, 41]), *plays(3, 26, 39)]

# Seat 0 has led the 4 out of its own 2, 4, 6.
OWN_BETWEEN = [deal(4, 0, [2, 4, 6], [13, 14, 15], [26, 27, 28], [39, 40, 41]), play(4)]


class Alike(EndingCase):
    def assert_alike(self, ahead, cards):
        """The cards are alike, each asked in its turn."""
        for card in cards:
            self.assertEqual(self.last(*ahead, alike(card)), [0, len(cards)] + cards)

    def test_a_card_between_in_another_hand(self):
        for cards in ([2], [4, 5], [9], [3], [7]):
            self.assert_alike([PARTED], cards)

    def test_a_hand_that_is_not_on_turn(self):
        for leader in range(4):
            ahead = [deal(2, leader, [0, 1], [13, 14], [26, 27], [39, 40])]
            for cards in ([0, 1], [13, 14], [26, 27], [39, 40]):
                self.assert_alike(ahead, cards)

    def test_cards_that_nobody_has_part_none(self):
        self.assert_alike([PARTED], [26, 28, 29, 38])
        self.assert_alike([deal(4, 0, [0, 12], [13, 25], [26, 38], [39, 51])], [39, 51])

    def test_a_card_of_the_own_hand_parts_none(self):
        self.assert_alike([deal(4, 0, [2, 4, 6], [13, 14, 15], [26, 27, 28], [39, 40, 41])], [2, 4, 6])

    def test_a_card_of_the_partner_parts_like_any_other(self):
        for seat in (1, 2, 3):
            hands = [[2, 4], [13, 14], [26, 27], [39, 40]]
            hands[seat] = [3, 50]
            self.assert_alike([deal(4, 0, *hands)], [2])
            self.assert_alike([deal(4, 0, *hands)], [4])

    def test_a_lone_card(self):
        ahead = [deal(4, 3, [0], [13], [26], [51])]
        for card in (0, 13, 26, 51):
            self.assert_alike(ahead, [card])

    def test_over_suits(self):
        ahead = [deal(4, 0, [12, 13], [25, 26], [38, 39], [0, 51])]
        for card in (12, 13, 25, 26, 38, 39, 0, 51):
            self.assert_alike(ahead, [card])
        ahead = [deal(4, 0, [11, 12, 13, 14], [25, 24, 26, 27], [40, 39, 38, 37], [0, 1, 50, 51])]
        for cards in ([11, 12], [13, 14], [24, 25], [26, 27], [37, 38], [39, 40], [0, 1], [50, 51]):
            self.assert_alike(ahead, cards)

    def test_unsorted_hands_are_told_in_rising_order(self):
        self.assert_alike([deal(4, 0, [6, 2, 4], [13, 14, 15], [26, 27, 28], [39, 40, 41])], [2, 4, 6])

    def test_a_card_that_was_played_to_the_trick_parts(self):
        self.assert_alike(PLAYED_BETWEEN, [2])
        self.assert_alike(PLAYED_BETWEEN, [4, 6])

    def test_a_card_that_the_same_seat_played_to_the_trick_parts(self):
        self.assert_alike(OWN_BETWEEN, [2])
        self.assert_alike(OWN_BETWEEN, [6])

    def test_a_card_that_went_with_a_whole_trick_does_not_part(self):
        self.assert_alike([*PLAYED_BETWEEN, play(6)], [2, 4])
        self.assert_alike([*OWN_BETWEEN, *plays(13, 26, 39)], [2, 6])

    def test_a_card_that_is_taken_back_parts_again(self):
        self.assert_alike([*PLAYED_BETWEEN, play(6), BACK], [2])

    def test_changes_nothing(self):
        for ahead in ([PARTED], PLAYED_BETWEEN):
            self.assertEqual(self.state_behind(*ahead, alike(4)), self.state_behind(*ahead))

    def test_cards_alike_have_one_value(self):
        chance = seeded(41)
        for size, trump, leader in kinds([3, 4]):
            hands = random_hands(chance, size, range(5, 25))
            ahead = [deal(trump, leader, *hands)]
            told = self.last(*ahead, CARDS)[2:]
            values = dict(zip(told[::2], told[1::2]))
            for card in values:
                others = self.last(*ahead, alike(card))[2:]
                self.assertEqual({values[other] for other in others}, {values[card]})


class AlikeRefused(EndingCase):
    def test_no_card_s_number(self):
        for number in NO_CARD_NUMBERS:
            self.assert_refused([PARTED], alike(number), -1)
            self.assert_refused(PLAYED_BETWEEN, alike(number), -1)

    def test_range_is_looked_at_ahead_of_the_hands(self):
        for number in NO_CARD_NUMBERS:
            self.assert_refused([], alike(number), -1)

    def test_before_any_deal(self):
        for card in (0, 51):
            self.assert_refused([], alike(card), -4)

    def test_a_card_of_no_hand(self):
        for card in (0, 1, 6, 8, 16, 27, 41, 50):
            self.assert_refused([PARTED], alike(card), -4)

    def test_a_card_that_was_played(self):
        for card in (3, 26, 39):
            self.assert_refused(PLAYED_BETWEEN, alike(card), -4)
            self.assert_refused([*PLAYED_BETWEEN, play(6)], alike(card), -4)

    def test_behind_the_end(self):
        for card in range(5):
            self.assert_refused([deal(4, 0, [0], [1], [2], [3]), *plays(0, 1, 2, 3)], alike(card), -4)


class Squeezed(EndingCase):
    def test_no_cards(self):
        self.assertEqual(run(SQUEEZED), [[0] * 6])
        self.assertEqual(self.last(deal(2, 3, [], [], [], []), SQUEEZED), [0] * 6)
        self.assertEqual(self.last(deal(4, 0, [0], [1], [2], [3]), *plays(0, 1, 2, 3), SQUEEZED), [0] * 6)

    def test_each_suit_to_its_top(self):
        told = self.last(deal(4, 0, [0, 5], [3, 13], [20, 26], [51, 39]), SQUEEZED)
        self.assertEqual(told, [0, 2, 10, 12, 2, 11, 24, 2, 25, 38, 2, 50, 51, 0])

    def test_cards_that_are_the_highest_already(self):
        hands = [[12, 11, 10, 9], [25, 24, 23, 22], [38, 37, 36, 35], [51, 50, 49, 48]]
        told = self.last(deal(4, 2, *hands), SQUEEZED)
        self.assertEqual(told, [0, 4, 9, 10, 11, 12, 4, 22, 23, 24, 25, 4, 35, 36, 37, 38, 4, 48, 49, 50, 51, 0])

    def test_a_suit_that_lies_over_all_hands(self):
        told = self.last(deal(4, 0, [0, 7], [1, 6], [2, 5], [3, 4]), SQUEEZED)
        self.assertEqual(told, [0, 2, 5, 12, 2, 6, 11, 2, 7, 10, 2, 8, 9, 0])

    def test_with_a_begun_trick(self):
        ahead = [deal(4, 0, [0, 5], [3, 13], [20, 26], [1, 39])]
        self.assertEqual(self.last(*ahead, play(5), SQUEEZED), [0, 1, 9, 2, 11, 24, 2, 25, 38, 2, 10, 51, 1, 12])
        told = self.last(*ahead, *plays(5, 3, 26, 1), SQUEEZED)
        self.assertEqual(told, [0, 1, 12, 1, 24, 1, 25, 1, 51, 0])

    def test_the_trick_is_told_in_the_order_it_was_played_in(self):
        ahead = [deal(4, 3, [0, 5], [3, 13], [20, 26], [1, 39]), *plays(1, 5, 3)]
        self.assertEqual(self.last(*ahead, SQUEEZED), [0, 1, 9, 1, 24, 2, 25, 38, 1, 51, 3, 10, 12, 11])

    def test_cards_of_whole_tricks_do_not_count(self):
        ahead = [deal(4, 0, [12, 0], [11, 1], [10, 2], [9, 3]), *plays(12, 11, 10, 9)]
        self.assertEqual(self.last(*ahead, SQUEEZED), [0, 1, 9, 1, 10, 1, 11, 1, 12, 0])
        self.assertEqual(self.last(*ahead, play(0), SQUEEZED), [0, 0, 1, 10, 1, 11, 1, 12, 1, 9])

    def test_changes_nothing(self):
        for ahead in ([PARTED], PLAYED_BETWEEN):
            self.assertEqual(self.state_behind(*ahead, SQUEEZED), self.state_behind(*ahead))

    def test_squeezed_cards_are_worth_the_same(self):
        chance = seeded(42)
        for size, trump, leader in kinds([2, 4]):
            hands = random_hands(chance, size)
            told, value = run(deal(trump, leader, *hands), SQUEEZED, VALUE)[1:]
            squeezed = [told[start + 2:start + 2 + size] for start in range(0, 4 * (size + 1), size + 1)]
            again, same_value = run(deal(trump, leader, *squeezed), SQUEEZED, VALUE)[1:]
            self.assertEqual([again, same_value], [told, value])


class AllAlong(EndingCase):
    """alike of each card, and squeezed, along whole endings."""

    def test_each_size_trump_and_leader(self):
        chance = seeded(43)
        for size, trump, leader in kinds(range(5)):
            for plain, ahead in along(chance, size, trump, leader, range(7, 33)):
                cards = sorted(set().union(*plain.hands))
                told = run(*ahead, SQUEEZED, *[alike(card) for card in cards])[len(ahead):]
                self.assertEqual(told[0], plain.told_squeezed())
                self.assertEqual(told[1:], [plain.told_alike(card) for card in cards])


if __name__ == "__main__":
    unittest.main()
