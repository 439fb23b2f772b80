import unittest

from calls import BACK, CARDS, FAR, LINE, NO_CARD_NUMBERS, TURN, VALUE, EndingCase, deal, play, plays, run

TWO_EACH = [[12, 0], [13, 14], [26, 27], [39, 40]]
HELD = [deal(2, 1, *TWO_EACH), play(13)]


def four_hands(size):
    return [[13 * seat + height for height in range(size)] for seat in range(4)]


class BeforeAnyDeal(EndingCase):
    def test_hands_are_empty_and_seat_0_leads(self):
        self.assertEqual(run(TURN), [[0, 0, 0, 0, 0]])
        self.assertEqual(run(VALUE, CARDS, LINE), [[0, 0], [0, 0], [0, 0]])

    def test_nothing_can_be_played_or_taken_back(self):
        self.assertEqual(run(play(0), play(51), BACK), [[-3], [-3], [-3]])

    def test_a_refused_deal_leaves_no_ending(self):
        self.assert_refused([], deal(0, 0, [1], [1], [2], [3]), -2)
        self.assert_refused([], deal(5, 0, [], [], [], []), -1)


class Deal(EndingCase):
    def test_is_answered_0_alone(self):
        for size in range(5):
            self.assertEqual(run(deal(0, 0, *four_hands(size))), [[0]])

    def test_each_leader_is_on_turn_with_each_trump_and_size(self):
        for size in range(5):
            for trump in range(5):
                for leader in range(4):
                    hands = four_hands(size)
                    told = self.last(deal(trump, leader, *hands), TURN)
                    self.assertEqual(told, [0, leader, 0, 0, size] + hands[leader])

    def test_each_trump_is_the_trump(self):
        hands = [[12], [13], [26], [39]]
        winners = []
        for trump in range(5):
            winners.append(self.last(deal(trump, 0, *hands), *plays(12, 13, 26, 39))[1])
        self.assertEqual(winners, [0, 1, 2, 3, 0])

    def test_unsorted_hands_are_told_in_rising_order(self):
        hands = [[51, 3, 20, 13], [50, 49, 2, 1], [30, 10, 40, 0], [9, 8, 7, 6]]
        for leader in range(4):
            told = self.last(deal(4, leader, *hands), TURN)
            self.assertEqual(told, [0, leader, 0, 0, 4] + sorted(hands[leader]))

    def test_the_order_of_a_hand_changes_nothing(self):
        rising = [[0, 12, 14, 40], [1, 13, 27, 50], [2, 11, 26, 38], [3, 25, 39, 51]]
        falling = [hand[::-1] for hand in rising]
        self.assertEqual(self.state_behind(deal(1, 2, *falling)), self.state_behind(deal(1, 2, *rising)))

    def test_least_and_greatest_card(self):
        self.assertEqual(self.last(deal(4, 3, [0], [1], [2], [51]), TURN), [0, 3, 0, 0, 1, 51])

    def test_behind_plays_nothing_of_the_old_ending_is_left(self):
        new = deal(3, 2, [4], [5], [6], [7])
        old = [deal(2, 1, *TWO_EACH)] + plays(13, 26, 39, 0, 27)
        self.assertEqual(self.last(*old)[2:], [1, 0])
        self.assertEqual(self.last(*old, new, TURN), [0, 2, 0, 0, 1, 6])
        self.assertEqual(self.last(*old, new, BACK), [-3])
        self.assertEqual(self.state_behind(*old, new), self.state_behind(new))

    def test_of_empty_hands_behind_plays(self):
        empty = deal(1, 3, [], [], [], [])
        self.assertEqual(run(*HELD, empty, TURN, BACK, play(14))[2:], [[0], [0, 3, 0, 0, 0], [-3], [-3]])


class DealRefused(EndingCase):
    def test_trump_out_of_range(self):
        for trump in [-1, 5, -FAR, FAR]:
            self.assert_refused(HELD, deal(trump, 0, *TWO_EACH), -1)

    def test_leader_out_of_range(self):
        for leader in [-1, 4, -FAR, FAR]:
            self.assert_refused(HELD, deal(0, leader, *TWO_EACH), -1)

    def test_a_card_out_of_range_in_each_place(self):
        for number in NO_CARD_NUMBERS:
            for seat in range(4):
                for place in range(2):
                    hands = [list(hand) for hand in TWO_EACH]
                    hands[seat][place] = number
                    self.assert_refused(HELD, deal(0, 0, *hands), -1)

    def test_hands_of_more_than_four(self):
        self.assert_refused(HELD, deal(0, 0, *four_hands(5)), -1)
        for seat in range(4):
            for size in (5, 20):
                hands = four_hands(4)
                hands[seat] = list(range(20))[:size]
                self.assert_refused(HELD, deal(0, 0, *hands), -1)

    def test_hands_of_unlike_length(self):
        for seat in range(4):
            for size in (0, 1, 3, 4):
                hands = four_hands(2)
                hands[seat] = four_hands(size)[seat]
                self.assert_refused(HELD, deal(0, 0, *hands), -2)

    def test_a_card_only_where_the_first_hand_is_empty(self):
        for seat in range(4):
            hands = [[], [], [], []]
            hands[seat] = [7]
            self.assert_refused(HELD, deal(0, 0, *hands), -2)

    def test_a_card_twice_in_one_hand(self):
        for seat in range(4):
            hands = four_hands(3)
            hands[seat][2] = hands[seat][0]
            self.assert_refused(HELD, deal(0, 0, *hands), -2)

    def test_a_card_in_two_hands(self):
        for seat in range(4):
            for other in range(4):
                if other != seat:
                    hands = four_hands(2)
                    hands[seat][0] = hands[other][1]
                    self.assert_refused(HELD, deal(0, 0, *hands), -2)

    def test_range_is_looked_at_ahead_of_the_hands(self):
        unlike = [[1], [2, 3], [4], [5]]
        twice = [[1], [1], [4], [5]]
        for hands in (unlike, twice):
            self.assert_refused(HELD, deal(5, 0, *hands), -1)
            self.assert_refused(HELD, deal(0, -1, *hands), -1)
        self.assert_refused(HELD, deal(0, 0, [1], [1], [4], [52]), -1)
        self.assert_refused(HELD, deal(0, 0, [1], [2, 3], [4], [-1]), -1)
        self.assert_refused(HELD, deal(0, 0, [1, 1], [2], [3], [4, 5, 6, 7, 8]), -1)


if __name__ == "__main__":
    unittest.main()
