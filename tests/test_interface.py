import time
import unittest

from calls import BACK, CARDS, FAR, LINE, PAST, SQUEEZED, TABLE, TOLD, TURN, VALUE, account, alike, can, deal, play
from calls import plays, run
from lasttricksdesk.endings import answers

ONE_EACH = deal(4, 0, [2], [0], [1], [13])

# A line may have six of the seven calls that search, so two lines have all kinds between them.
ALL_BUT_LINE = sum([ONE_EACH, TURN, VALUE, CARDS, account(2, 0, 1), TABLE, alike(13), play(2), SQUEEZED, PAST,
                    can(1, 1), play(1), TOLD, BACK, deal(5, 0, [], [], [], [])], [])
ALL_BUT_VALUE = sum([TOLD, can(0, 0), ONE_EACH, LINE, play(2), play(0), CARDS, TABLE, account(1, 13), alike(1), PAST,
                     BACK, SQUEEZED, TURN], [])

SUITS_APART = [[9, 10, 11, 12], [22, 23, 24, 25], [35, 36, 37, 38], [48, 49, 50, 51]]


class Guarded(list):
    """A list that fails at each change."""

    def refuse(self, *given, **named):
        raise AssertionError("what was handed in was changed")

    append = clear = extend = insert = pop = remove = reverse = sort = refuse
    __setitem__ = __delitem__ = __iadd__ = __imul__ = refuse


class Interface(unittest.TestCase):
    def test_each_answer_has_its_count_ahead(self):
        self.assertEqual(answers(ONE_EACH), [1, 0])
        self.assertEqual(answers(TURN), [5, 0, 0, 0, 0, 0])
        self.assertEqual(answers(VALUE), [2, 0, 0])
        self.assertEqual(answers(CARDS), [2, 0, 0])
        self.assertEqual(answers(LINE), [2, 0, 0])
        self.assertEqual(answers(BACK), [1, -3])
        self.assertEqual(answers(play(7)), [1, -3])
        self.assertEqual(answers(play(52)), [1, -1])

    def test_each_answer_of_an_account_a_table_and_their_like_has_its_count_ahead(self):
        self.assertEqual(answers(account()), [6, 0, 0, 0, 0, 0, 0])
        self.assertEqual(answers(account(3)), [1, -6])
        self.assertEqual(answers(account(52)), [1, -1])
        self.assertEqual(answers(PAST), [6, 0, 0, 0, 0, 0, 0])
        self.assertEqual(answers(TABLE), [21] + [0] * 21)
        self.assertEqual(answers(alike(51)), [1, -4])
        self.assertEqual(answers(SQUEEZED), [6, 0, 0, 0, 0, 0, 0])
        self.assertEqual(answers(can(1, 0)), [2, 0, 1])
        self.assertEqual(answers(can(2, 0)), [1, -1])
        self.assertEqual(answers(TOLD), [9, 0, 4, 0, 0, 0, 0, 0, 0, 0])

    def test_all_kinds_of_calls_but_line_in_one_list(self):
        self.assertEqual(answers(ALL_BUT_LINE), [
            1, 0,
            6, 0, 0, 0, 0, 1, 2,
            2, 0, 1,
            4, 0, 1, 2, 1,
            9, 0, 1, 0, 0, 0, 1, 0, 0, 0,
            21, 0, 1, 1, 1, 1, 0, 0, 0, 0, 1, 1, 1, 0, 1, 1, 1, 0, 1, 1, 1, 0,
            3, 0, 1, 13,
            4, 0, 1, 0, 0,
            10, 0, 0, 1, 10, 1, 11, 1, 25, 1, 12,
            7, 0, 1, 0, 0, 0, 1, 0,
            2, 0, 0,
            1, -4,
            14, 0, 4, 0, 0, 1, 0, 1, 1, 1, 13, 1, 2, 1, 2,
            4, 0, 0, 0, 0,
            1, -1])

    def test_all_kinds_of_calls_but_value_in_one_list(self):
        self.assertEqual(answers(ALL_BUT_VALUE), [
            9, 0, 4, 0, 0, 0, 0, 0, 0, 0,
            2, 0, 1,
            1, 0,
            6, 0, 4, 2, 0, 1, 13,
            4, 0, 1, 0, 0,
            4, 0, 2, 0, 0,
            4, 0, 1, 1, 1,
            1, -7,
            8, 0, 1, 0, 0, 1, 0, 0, 0,
            3, 0, 1, 1,
            8, 0, 1, 0, 0, 0, 1, 0, 0,
            4, 0, 1, 0, 0,
            10, 0, 0, 1, 10, 1, 11, 1, 25, 1, 12,
            6, 0, 1, 0, 0, 1, 0])

    def test_long_rows_are_read_whole_where_they_are_refused(self):
        row = [FAR] * 20
        self.assertEqual(answers(deal(0, 0, row, row, row, row) + TURN), [1, -1, 5, 0, 0, 0, 0, 0])
        self.assertEqual(answers(deal(0, 0, [1], row, [], [2, 3]) + TURN), [1, -1, 5, 0, 0, 0, 0, 0])

    def test_long_accounts_are_read_whole_where_they_are_refused(self):
        for row in ([FAR] * 20, list(range(20)), [13] * 17):
            self.assertEqual(answers(account(*row) + TURN), [1, -1, 5, 0, 0, 0, 0, 0])
        self.assertEqual(answers(account(2, 13, 2, 0) + TURN), [1, -6, 5, 0, 0, 0, 0, 0])

    def test_numbers_of_a_row_are_not_taken_for_calls(self):
        told = answers(deal(4, 1, [3, 2], [4, 5], [6, 0], [1, 51]) + TURN)
        self.assertEqual(told, [1, 0, 7, 0, 1, 0, 0, 2, 4, 5])

    def test_a_hundred_calls(self):
        self.assertEqual(answers(sum([ONE_EACH] + plays(2) * 99, [])), [1, 0, 4, 0, 1, 0, 0] + [1, -4] * 98)

    def test_gives_back_a_list_of_whole_numbers(self):
        for line in (ALL_BUT_LINE, ALL_BUT_VALUE):
            told = answers(line)
            self.assertIs(type(told), list)
            self.assertEqual({type(number) for number in told}, {int})

    def test_what_was_handed_in_is_as_it_was(self):
        for line in (ALL_BUT_LINE, ALL_BUT_VALUE):
            calls = list(line)
            answers(calls)
            self.assertEqual(calls, line)

    def test_what_was_handed_in_is_not_changed_for_a_while_either(self):
        for line in (ALL_BUT_LINE, ALL_BUT_VALUE):
            self.assertEqual(answers(Guarded(line)), answers(line))

    def test_a_second_run_answers_as_the_first(self):
        for line in (ALL_BUT_LINE, ALL_BUT_VALUE):
            first = answers(line)
            self.assertEqual(answers(line), first)
            self.assertEqual(answers(TOLD + BACK), [9, 0, 4, 0, 0, 0, 0, 0, 0, 0, 1, -3])

    def test_a_changed_answer_is_not_seen_again(self):
        for line in (ALL_BUT_LINE, ALL_BUT_VALUE):
            first = answers(line)
            kept = list(first)
            first.clear()
            self.assertEqual(answers(line), kept)


class Soon(unittest.TestCase):
    """Hands of which none can follow another's suit leave the most plays open.

    The bound is many times what the answers take, and far below what a
    search takes that goes through all plays each time.
    """

    def setUp(self):
        self.begun = time.monotonic()

    def tearDown(self):
        self.assertLess(time.monotonic() - self.begun, 30)

    def test_six_calls_of_one_ending(self):
        whole_trick = plays(9, 22, 35, 48)
        played = account(9, 22, 35, 48, 10, 23, 36, 49, 11, 24, 37, 50, 12, 25, 38, 51)
        told = run(deal(4, 0, *SUITS_APART), VALUE, CARDS, LINE, played, can(1, 1), *whole_trick, TABLE)
        self.assertEqual(told[1], [0, 4])
        self.assertEqual(told[2], [0, 4, 9, 4, 10, 4, 11, 4, 12, 4])
        self.assertEqual(told[3], [0] + played[1:])
        self.assertEqual(told[4], [0, 4, 0, 0, 4, 0] + [0] * 16)
        self.assertEqual(told[5], [0, 0])
        self.assertEqual(told[-1], [0] + [3] * 4 + [0] * 4 + [3] * 4 + [0] * 4 + [3, 0, 3, 0])

    def test_six_endings_unlike_each_other(self):
        calls = []
        for trump, leader, call in [(4, 0, VALUE), (4, 1, LINE), (0, 1, CARDS), (1, 2, can(0, 4)), (2, 3, account()),
                                    (3, 0, PAST)]:
            calls += [deal(trump, leader, *SUITS_APART), call]
        told = run(*calls)[1::2]
        self.assertEqual(told[0], [0, 4])
        self.assertEqual(told[1], [0, 16, 22, 35, 48, 9, 23, 36, 49, 10, 24, 37, 50, 11, 25, 38, 51, 12])
        self.assertEqual(told[2], [0, 4, 22, 4, 23, 4, 24, 4, 25, 4])
        self.assertEqual(told[3:], [[0, 0], [0, 4, 0, 0, 0, 4], [0, 0, 0, 0, 0, 0]])

    def test_a_past_and_accounts_to_the_last_card(self):
        cards = [9, 22, 35, 48, 10, 23, 36, 49, 11, 24, 37, 50, 12, 25, 38, 51]
        told = run(deal(4, 0, *SUITS_APART), *plays(*cards), PAST, *[BACK] * 16, account(*cards))
        self.assertEqual(told[17], [0, 4, 0, 0, 4, 0] + [0] * 16)
        self.assertEqual(told[-1], told[17])


if __name__ == "__main__":
    unittest.main()
