"""account and past: the tricks that cards make, and who gave away how many with which of them."""

import unittest

from calls import BACK, FAR, NO_CARD_NUMBERS, PAST, TOLD, EndingCase, account, deal, play, plays, run
from plain import Plain, random_hands, seeded
from walks import along, cards_to_play, kinds

# Seat 2 (or 3) must take the first trick with the higher card; the lower one wins the next.
SIDE_0_TAKES = deal(4, 0, [0, 13], [11, 14], [5, 12], [3, 15])
SIDE_1_TAKES = deal(4, 1, [3, 15], [0, 13], [11, 14], [5, 12])

# Seat 0 must not lead its 2; once it did, seat 1 must not leave it the trick.
BOTH_GIVE = deal(4, 0, [2, 14], [0, 3], [13, 15], [1, 26])

# Side 0 wins both tricks, whatever is played.
SURE = deal(4, 0, [12, 11], [0, 1], [2, 3], [4, 5])

THREE_EACH = deal(4, 0, [0, 5, 13], [1, 14, 26], [27, 28, 39], [2, 40, 41])
EMPTY = deal(2, 3, [], [], [], [])


class Account(EndingCase):
    def test_of_no_cards(self):
        self.assertEqual(self.last(SURE, account()), [0, 2, 0, 0, 0, 2])
        self.assertEqual(self.last(SURE, *plays(12, 0), account()), [0, 2, 0, 0, 0, 2])
        self.assertEqual(self.last(SURE, *plays(12, 0, 2, 4), account()), [0, 1, 0, 0, 0, 1])

    def test_of_no_cards_where_none_is_left(self):
        self.assertEqual(run(account()), [[0, 0, 0, 0, 0, 0]])
        self.assertEqual(self.last(EMPTY, account()), [0, 0, 0, 0, 0, 0])
        self.assertEqual(self.last(SURE, *plays(12, 0, 2, 4, 11, 1, 3, 5), account()), [0, 0, 0, 0, 0, 0])

    def test_a_gift_of_side_0(self):
        self.assertEqual(self.last(SIDE_0_TAKES, account(0, 11, 5, 3)), [0, 2, 2, 0, 0, 0, 0, 0, 2, 0])
        self.assertEqual(self.last(SIDE_0_TAKES, account(0, 11, 12, 3)), [0, 2, 0, 0, 1, 1, 0, 0, 0, 0])
        self.assertEqual(self.last(SIDE_0_TAKES, account(13)), [0, 2, 1, 0, 0, 1, 1])

    def test_a_gift_of_side_1(self):
        self.assertEqual(self.last(SIDE_1_TAKES, account(0, 11, 5, 3)), [0, 0, 0, 2, 1, 1, 0, 0, 2, 0])
        self.assertEqual(self.last(SIDE_1_TAKES, account(0, 11, 12, 3)), [0, 0, 0, 0, 0, 0, 0, 0, 0, 0])
        self.assertEqual(self.last(SIDE_1_TAKES, account(13)), [0, 0, 0, 1, 0, 1, 1])

    def test_gifts_of_both_sides(self):
        self.assertEqual(self.last(BOTH_GIVE, account(2, 0)), [0, 2, 2, 2, 0, 2, 2, 2])
        told = self.last(BOTH_GIVE, account(2, 0, 13, 1, 14, 3, 15, 26))
        self.assertEqual(told, [0, 2, 2, 2, 2, 0, 2, 2, 0, 0, 0, 0, 0, 0])

    def test_gifts_of_two_cards_of_a_side(self):
        self.assertEqual(self.last(SIDE_0_TAKES, account(13, 14, 12, 15)), [0, 2, 2, 0, 0, 0, 1, 0, 1, 0])
        self.assertEqual(self.last(SIDE_1_TAKES, account(13, 14, 12, 15)), [0, 0, 0, 2, 1, 1, 1, 0, 1, 0])

    def test_that_ends_within_a_trick(self):
        self.assertEqual(self.last(SIDE_0_TAKES, account(0)), [0, 2, 0, 0, 0, 2, 0])
        self.assertEqual(self.last(SIDE_0_TAKES, account(0, 11)), [0, 2, 0, 0, 0, 2, 0, 0])
        self.assertEqual(self.last(SIDE_0_TAKES, account(0, 11, 5)), [0, 2, 2, 0, 0, 0, 0, 0, 2])

    def test_to_the_last_card(self):
        told = self.last(SURE, account(12, 0, 2, 4, 11, 1, 3, 5))
        self.assertEqual(told, [0, 2, 0, 0, 2, 0] + [0] * 8)
        told = self.last(SIDE_0_TAKES, account(0, 11, 5, 3, 14, 12, 15, 13))
        self.assertEqual(told, [0, 2, 2, 0, 0, 0, 0, 0, 2, 0, 0, 0, 0, 0])

    def test_of_sixteen_cards(self):
        hands = [[9, 10, 11, 12], [5, 6, 7, 8], [1, 2, 3, 4], [13, 14, 15, 16]]
        cards = [9, 5, 1, 13, 10, 6, 2, 14, 11, 7, 3, 15, 12, 8, 4, 16]
        self.assertEqual(self.last(deal(4, 0, *hands), account(*cards)), [0, 4, 0, 0, 4, 0] + [0] * 16)

    def test_from_the_midst_of_a_trick_on(self):
        told = self.last(SIDE_0_TAKES, *plays(0, 11), account(5, 3, 14))
        self.assertEqual(told, [0, 2, 2, 0, 0, 0, 2, 0, 0])
        self.assertEqual(self.last(SURE, *plays(12, 0, 2), account(4)), [0, 2, 0, 0, 1, 1, 0])

    def test_counts_no_trick_that_was_whole_before(self):
        self.assertEqual(self.last(SURE, *plays(12, 0, 2, 4), account(11, 1, 3)), [0, 1, 0, 0, 0, 1, 0, 0, 0])
        self.assertEqual(self.last(SURE, *plays(12, 0, 2, 4), account(11, 1, 3, 5)), [0, 1, 0, 0, 1, 0, 0, 0, 0, 0])

    def test_changes_nothing(self):
        for ahead in ([SIDE_0_TAKES], [SIDE_0_TAKES, *plays(0, 11)]):
            call = account(5, 3) if len(ahead) > 1 else account(0, 11, 5, 3, 14)
            self.assertEqual(self.last(*ahead, call)[0], 0)
            self.assertEqual(self.state_behind(*ahead, call), self.state_behind(*ahead))
        told = run(SIDE_0_TAKES, TOLD, account(0, 11, 5, 3), TOLD, play(0), account(11, 12), play(11), BACK)
        self.assertEqual(told[1], told[3])
        self.assertEqual([told[4], told[6], told[7]], [[0, 1, 0, 0], [0, 2, 0, 0], [0, 1, 0, 0]])


class AccountRefused(EndingCase):
    def test_a_card_out_of_range_in_each_place(self):
        for number in NO_CARD_NUMBERS:
            for place in range(5):
                cards = [0, 1, 27, 2, 40]
                cards[place] = number
                self.assert_refused([THREE_EACH], account(*cards), -1)

    def test_too_many_cards(self):
        for size in (17, 18, 20):
            self.assert_refused([THREE_EACH], account(*range(size)), -1)
            self.assert_refused([THREE_EACH], account(*[0] * size), -1)
        self.assert_refused([], account(*range(17)), -1)

    def test_sixteen_are_not_too_many(self):
        self.assert_refused([THREE_EACH], account(*range(16)), -6)

    def test_range_is_looked_at_ahead_of_what_may_be_played(self):
        for number in NO_CARD_NUMBERS:
            self.assert_refused([], account(number), -1)
            self.assert_refused([THREE_EACH], account(51, number), -1)
            self.assert_refused([THREE_EACH], account(*[51] * 15, number), -1)
            self.assert_refused([THREE_EACH, play(0)], account(14, 27, number, 2), -1)
        self.assert_refused([THREE_EACH], account(*[FAR] * 20), -1)

    def test_a_card_that_is_not_in_the_hand(self):
        for card in (1, 27, 2, 3, 51):
            self.assert_refused([THREE_EACH], account(card), -6)
            self.assert_refused([THREE_EACH, *plays(0, 1, 27, 2)], account(card), -6)

    def test_a_card_that_is_not_in_the_hand_later_on(self):
        self.assert_refused([THREE_EACH], account(0, 1, 26), -6)
        self.assert_refused([THREE_EACH], account(0, 1, 27, 2, 5), -6)
        self.assert_refused([THREE_EACH], account(0, 1, 27, 2, 40, 41), -6)

    def test_a_card_twice(self):
        self.assert_refused([THREE_EACH], account(0, 0), -6)
        self.assert_refused([THREE_EACH], account(0, 1, 27, 2, 40, 0), -6)

    def test_the_suit_must_be_followed(self):
        self.assert_refused([THREE_EACH], account(0, 14), -6)
        self.assert_refused([THREE_EACH, play(0)], account(26), -6)
        self.assert_refused([THREE_EACH], account(0, 1, 27, 40), -6)

    def test_a_card_behind_the_end(self):
        one_each = deal(4, 0, [0], [1], [2], [3])
        for card in (0, 3, 4):
            self.assert_refused([], account(card), -6)
            self.assert_refused([EMPTY], account(card), -6)
            self.assert_refused([one_each], account(0, 1, 2, 3, card), -6)
            self.assert_refused([one_each, *plays(0, 1, 2, 3)], account(card), -6)


class Past(EndingCase):
    def test_before_any_deal(self):
        self.assertEqual(run(PAST), [[0, 0, 0, 0, 0, 0]])

    def test_behind_no_play(self):
        self.assertEqual(self.last(SURE, PAST), [0, 2, 0, 0, 0, 2])
        self.assertEqual(self.last(EMPTY, PAST), [0, 0, 0, 0, 0, 0])

    def test_behind_plays(self):
        told = run(SIDE_0_TAKES, *plays(0, 11), PAST, play(5), PAST, play(3), PAST)
        self.assertEqual(told[3], [0, 2, 0, 0, 0, 2, 0, 0])
        self.assertEqual(told[5], [0, 2, 2, 0, 0, 0, 0, 0, 2])
        self.assertEqual(told[7], [0, 2, 2, 0, 0, 0, 0, 0, 2, 0])
        told = self.last(SIDE_1_TAKES, *plays(0, 11, 5, 3), PAST)
        self.assertEqual(told, [0, 0, 0, 2, 1, 1, 0, 0, 2, 0])

    def test_behind_the_last_card(self):
        told = self.last(SURE, *plays(12, 0, 2, 4, 11, 1, 3, 5), PAST)
        self.assertEqual(told, [0, 2, 0, 0, 2, 0] + [0] * 8)

    def test_behind_a_whole_trick_each_trick_counts(self):
        told = self.last(SURE, *plays(12, 0, 2, 4, 11), PAST)
        self.assertEqual(told, [0, 2, 0, 0, 1, 1] + [0] * 5)

    def test_behind_back(self):
        told = run(SIDE_0_TAKES, *plays(0, 11, 5, 3), BACK, PAST, BACK, PAST, play(12), PAST)
        self.assertEqual(told[6], [0, 2, 2, 0, 0, 0, 0, 0, 2])
        self.assertEqual(told[8], [0, 2, 0, 0, 0, 2, 0, 0])
        self.assertEqual(told[10], [0, 2, 0, 0, 0, 2, 0, 0, 0])
        self.assertEqual(self.last(SURE, play(12), BACK, PAST), [0, 2, 0, 0, 0, 2])

    def test_behind_a_second_deal(self):
        told = run(SIDE_0_TAKES, *plays(0, 11, 5), SIDE_1_TAKES, PAST, play(13), PAST)
        self.assertEqual([told[5], told[7]], [[0, 0, 0, 0, 0, 0], [0, 0, 0, 1, 0, 1, 1]])

    def test_behind_refused_calls(self):
        told = run(SIDE_0_TAKES, play(0), play(14), account(5), deal(5, 0, [], [], [], []), PAST)
        self.assertEqual(told[2:], [[-5], [-6], [-1], [0, 2, 0, 0, 0, 2, 0]])

    def test_an_account_is_not_past(self):
        self.assertEqual(self.last(SIDE_0_TAKES, play(0), account(11, 5), PAST), [0, 2, 0, 0, 0, 2, 0])

    def test_changes_nothing(self):
        ahead = [SIDE_0_TAKES, *plays(0, 11, 5, 3, 14)]
        self.assertEqual(self.state_behind(*ahead, PAST), self.state_behind(*ahead))


class AgainstThePlainSearch(EndingCase):
    """The program's answers held against a search over all plays."""

    def same(self, chance, plain, ahead, dealt):
        """An account of a part of what is left, one of all of it, and the past."""
        part = cards_to_play(chance, plain, chance.randrange(6))
        whole = cards_to_play(chance, plain, 16)
        told = run(*ahead, account(*part), account(*whole), PAST)[-3:]
        expected = [plain.told_account(part), plain.told_account(whole), dealt.told_account(plain.played)]
        self.assertEqual(told, expected)
        return expected

    def all_along(self, *chosen):
        """All answers along an ending played by chance."""
        chance = chosen[0]
        told = []
        dealt = None
        for plain, ahead in along(*chosen):
            dealt = dealt or plain
            told += self.same(chance, plain, ahead, dealt)
        return told

    def test_up_to_three_cards_with_each_trump_and_leader(self):
        chance = seeded(21)
        told = []
        for size, trump, leader in kinds(range(4)):
            told += self.all_along(chance, size, trump, leader, range(4, 30))
        # Chance is to bring gifts of each side, of both at once, and none.
        found = {(answer[2] > 0, answer[3] > 0) for answer in told}
        self.assertEqual(len(found), 4)

    def test_four_cards(self):
        chance = seeded(22)
        for trump, leader in [(0, 3), (1, 0), (2, 1), (3, 2), (4, 0)]:
            hands = random_hands(chance, 4, range(3, 30))
            plain = Plain(trump, leader, hands)
            cards = cards_to_play(chance, plain, 16)
            calls = [deal(trump, leader, *hands), account(*cards), *plays(*cards), PAST]
            expected = plain.told_account(cards)
            told = run(*calls)
            self.assertEqual([told[1], told[-1]], [expected, expected])

    def test_what_was_made_is_the_value_and_the_gifts(self):
        chance = seeded(23)
        for size, trump, leader in kinds([4]):
            hands = random_hands(chance, size)
            cards = cards_to_play(chance, Plain(trump, leader, hands), chance.randrange(17))
            told = self.last(deal(trump, leader, *hands), *plays(*cards), PAST)
            value, given_0, given_1, won, behind = told[1:6]
            self.assertEqual(value - given_0 + given_1, won + behind)
            self.assertEqual(len(told), 6 + len(cards))


if __name__ == "__main__":
    unittest.main()
