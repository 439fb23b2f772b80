import unittest

from calls import BACK, FAR, NO_CARD_NUMBERS, TURN, EndingCase, deal, play, plays, run

THREE_EACH = deal(4, 0, [0, 5, 13], [1, 14, 26], [27, 28, 39], [2, 40, 41])


class WhoWins(EndingCase):
    def winner(self, trump, leader, *cards):
        """Who wins the trick of these cards, each the only one of its hand."""
        hands = [[cards[(seat - leader) % 4]] for seat in range(4)]
        told = self.last(deal(trump, leader, *hands), *plays(*cards))
        self.assertEqual(told[2:], [1 - told[1] % 2, told[1] % 2])
        return told[1]

    def test_highest_of_the_first_suit_in_each_place(self):
        self.assertEqual(self.winner(4, 0, 9, 3, 5, 7), 0)
        self.assertEqual(self.winner(4, 0, 3, 9, 5, 7), 1)
        self.assertEqual(self.winner(4, 0, 3, 5, 9, 7), 2)
        self.assertEqual(self.winner(4, 0, 3, 5, 7, 9), 3)

    def test_seats_are_counted_from_the_leader(self):
        self.assertEqual(self.winner(4, 1, 3, 9, 5, 7), 2)
        self.assertEqual(self.winner(4, 2, 3, 5, 9, 7), 0)
        self.assertEqual(self.winner(4, 3, 3, 5, 7, 9), 2)
        self.assertEqual(self.winner(4, 3, 9, 3, 5, 7), 3)

    def test_a_higher_card_of_another_suit_does_not_win(self):
        self.assertEqual(self.winner(4, 0, 0, 51, 38, 25), 0)
        self.assertEqual(self.winner(4, 0, 0, 51, 1, 25), 2)
        self.assertEqual(self.winner(1, 0, 0, 51, 38, 39), 0)

    def test_the_only_trump_wins(self):
        self.assertEqual(self.winner(0, 0, 51, 50, 0, 49), 2)
        self.assertEqual(self.winner(3, 0, 12, 11, 10, 39), 3)

    def test_the_highest_trump_wins(self):
        self.assertEqual(self.winner(1, 0, 51, 13, 15, 14), 2)
        self.assertEqual(self.winner(1, 0, 51, 15, 13, 14), 1)
        self.assertEqual(self.winner(1, 2, 0, 13, 12, 25), 1)

    def test_the_highest_trump_wins_where_trump_is_led(self):
        self.assertEqual(self.winner(2, 0, 26, 38, 27, 51), 1)
        self.assertEqual(self.winner(2, 0, 26, 51, 50, 49), 0)


class Play(EndingCase):
    def test_seats_follow_each_other(self):
        told = run(THREE_EACH, *plays(0, 1, 27))
        self.assertEqual(told[1:], [[0, 1, 0, 0], [0, 2, 0, 0], [0, 3, 0, 0]])

    def test_seat_0_comes_behind_3(self):
        told = run(deal(4, 3, [0], [1], [2], [3]), *plays(3, 0, 1, 2))
        self.assertEqual(told[1:], [[0, 0, 0, 0], [0, 1, 0, 0], [0, 2, 0, 0], [0, 3, 0, 1]])

    def test_the_winner_leads(self):
        told = run(THREE_EACH, *plays(0, 1, 27, 2), TURN)
        self.assertEqual(told[-2:], [[0, 3, 0, 1], [0, 3, 0, 1, 2, 40, 41]])

    def test_the_card_leaves_the_hand(self):
        told = run(THREE_EACH, *plays(0, 1, 27, 2, 40), TURN)
        self.assertEqual(told[-1], [0, 0, 0, 1, 2, 5, 13])

    def test_tricks_count_for_the_side_of_the_winner(self):
        hands = [[12, 1], [13, 2], [26, 38], [39, 0]]
        told = run(deal(4, 0, *hands), *plays(12, 2, 26, 0), *plays(1, 13, 38, 39))
        self.assertEqual([told[4], told[8]], [[0, 0, 1, 0], [0, 0, 2, 0]])
        hands = [[5, 13], [6, 14], [7, 15], [8, 16]]
        told = run(deal(4, 0, *hands), *plays(5, 6, 7, 8), *plays(16, 13, 14, 15))
        self.assertEqual([told[4], told[8]], [[0, 3, 0, 1], [0, 3, 0, 2]])

    def test_a_hand_without_the_first_suit_may_play_any_card(self):
        for card in (27, 28, 39):
            self.assertEqual(self.last(THREE_EACH, *plays(0, 1, card)), [0, 3, 0, 0])

    def test_trump_may_be_held_back_or_played_where_the_suit_is_missing(self):
        ahead = [deal(2, 0, [0, 5, 13], [1, 14, 26], [27, 28, 39], [2, 40, 41])]
        self.assertEqual(self.last(*ahead, *plays(0, 1, 39, 2)), [0, 3, 0, 1])
        self.assertEqual(self.last(*ahead, *plays(0, 1, 27, 2)), [0, 2, 1, 0])

    def test_behind_the_last_card_its_winner_is_on_turn(self):
        told = run(deal(4, 2, [3], [0], [1], [2]), *plays(1, 2, 3, 0), TURN)
        self.assertEqual(told[-2:], [[0, 0, 1, 0], [0, 0, 1, 0, 0]])


class PlayRefused(EndingCase):
    def test_no_card_s_number(self):
        for number in NO_CARD_NUMBERS:
            self.assert_refused([THREE_EACH], play(number), -1)
            self.assert_refused([THREE_EACH, play(0)], play(number), -1)

    def test_no_cards(self):
        self.assert_refused([], play(0), -3)
        self.assert_refused([deal(4, 2, [], [], [], [])], play(51), -3)
        ended = [deal(4, 0, [0], [1], [2], [3])] + plays(0, 1, 2, 3)
        for card in range(5):
            self.assert_refused(ended, play(card), -3)

    def test_range_is_looked_at_ahead_of_no_cards(self):
        for number in NO_CARD_NUMBERS:
            self.assert_refused([], play(number), -1)

    def test_a_card_of_another_hand(self):
        for card in (1, 14, 26, 27, 28, 39, 2, 40, 41):
            self.assert_refused([THREE_EACH], play(card), -4)

    def test_a_card_of_no_hand(self):
        for card in (3, 12, 25, 38, 51):
            self.assert_refused([THREE_EACH], play(card), -4)

    def test_a_card_that_was_played(self):
        self.assert_refused([THREE_EACH, *plays(0, 1, 27, 2, 40)], play(0), -4)
        self.assert_refused([THREE_EACH, play(0)], play(0), -4)

    def test_the_suit_must_be_followed(self):
        for card in (14, 26):
            self.assert_refused([THREE_EACH, play(0)], play(card), -5)
        for card in (40, 41):
            self.assert_refused([THREE_EACH, *plays(0, 1, 39)], play(card), -5)

    def test_trump_is_no_way_round_the_suit(self):
        hands = [[0, 5], [1, 13], [2, 14], [3, 15]]
        self.assert_refused([deal(1, 0, *hands), play(0)], play(13), -5)

    def test_the_hand_is_looked_at_ahead_of_the_suit(self):
        for card in (5, 27, 50):
            self.assert_refused([THREE_EACH, play(0)], play(card), -4)

    def test_the_suit_is_the_first_card_s_not_the_last_one_s(self):
        hands = [[0, 5], [13, 14], [15, 1], [16, 2]]
        ahead = [deal(4, 0, *hands), *plays(0, 13)]
        self.assert_refused(ahead, play(15), -5)
        self.assertEqual(self.last(*ahead, play(1)), [0, 3, 0, 0])

    def test_a_refused_card_is_not_taken_back(self):
        told = run(THREE_EACH, play(0), play(14), play(FAR), BACK, BACK)
        self.assertEqual(told[1:], [[0, 1, 0, 0], [-5], [-1], [0, 0, 0, 0], [-3]])


if __name__ == "__main__":
    unittest.main()
