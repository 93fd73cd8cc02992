"""The calls contest to equilibria at ordinary inputs, at 1 and at 4 strategies, and the document's examples."""

import unittest

from contestways.contest import answers
from tests.helper import (
    BEARS, CONTEST, EQUILIBRIA, GROW, REPLIES, STABLE, STABLES, SUPPORT, SURVIVORS, TOLD, VALUE, ask, ask_of, one_of)

HAWK_DOVE = (2, [-1, 4, 0, 2])
MEETING = (2, [2, 0, 0, 1])
ROCK_PAPER_SCISSORS = (3, [0, -1, 1, 1, 0, -1, -1, 1, 0])
ALIKE = (2, [1, 1, 1, 1])
FOUR = (4, list(range(-8, 8)))
LONE = (1, [-7])
IDENTITY = (4, [1, 0, 0, 0, 0, 1, 0, 0, 0, 0, 1, 0, 0, 0, 0, 1])
AGAINST_OWN = (4, [0, 1, 1, 1, 1, 0, 1, 1, 1, 1, 0, 1, 1, 1, 1, 0])


class Examples(unittest.TestCase):
    def test_first_contest(self):
        calls = ((EQUILIBRIA,), (SUPPORT, [0, 1]), (STABLE, [2, 1]), (STABLE, [1, 1]), (BEARS, [2, 1], [1, 0]),
                 (REPLIES, [1, 0]), (VALUE, [2, 1], [1, 0]))
        self.assertEqual(ask_of(HAWK_DOVE, *calls), [
            [1, 3, 0],
            [1, 2, 3, 1, 3, 2, 3],
            [1],
            [0],
            [1, 1],
            [0, 0, 1, 1, 1],
            [0, -2, 3],
        ])

    def test_second_contest(self):
        self.assertEqual(ask_of(MEETING, (EQUILIBRIA,), (STABLES,), (BEARS, [1, 0], [0, 1]), (GROW, 1, [1, 1])),
                         [[3, 1, 2, 3, 0], [2, 1, 2], [2, 3], [0, 2, 3, 1, 3]])

    def test_both_in_one_list_number_by_number(self):
        line = [0, 2, 4, -1, 4, 0, 2, 6, 5, 2, 0, 1, 7, 2, 2, 1, 7, 2, 1, 1, 9, 2, 2, 1, 2, 1, 0,
                3, 2, 1, 0, 2, 2, 2, 1, 2, 1, 0,
                0, 2, 4, 2, 0, 0, 1, 6, 8, 9, 2, 1, 0, 2, 0, 1, 10, 1, 2, 1, 1]
        self.assertEqual(answers(line), [
            1, 0, 3, 1, 3, 0, 7, 1, 2, 3, 1, 3, 2, 3, 1, 1, 1, 0, 2, 1, 1,
            5, 0, 0, 1, 1, 1, 3, 0, -2, 3,
            1, 0, 5, 3, 1, 2, 3, 0, 3, 2, 1, 2, 2, 2, 3, 5, 0, 2, 3, 1, 3])

    def test_the_calls_that_change_number_by_number(self):
        line = [0, 2, 4, -1, 4, 0, 2, 11, 2, 10, -1, 1, 12, 3, 1, 13, 1, 1, 1]
        self.assertEqual(answers(line), [1, 0, 1, 0, 5, 2, 9, 3, 10, 1, 1, 0, 5, 2, 27, 9, 30, 3, 1, 1, 2, 1, 3])


class TheFirstContest(unittest.TestCase):
    def test_every_call_before_a_contest_is_told(self):
        calls = ((TOLD,), (VALUE, [5], [7]), (REPLIES, [3]), (SURVIVORS,), (SUPPORT, [0]), (EQUILIBRIA,))
        answered = [[1, 0], [0, 0, 1], [0, 0, 1, 1, 0], [1, 0], [1, 1, 1, 0, 1], [1, 1, 0]]
        self.assertEqual(ask(*calls), answered)
        for call, answer in zip(calls, answered):
            self.assertEqual(ask(call), [answer])

    def test_refusals_before_a_contest_is_told(self):
        self.assertEqual(ask((VALUE, [1, 1], [1]), (REPLIES, [0]), (SUPPORT, [1]), (TOLD,)),
                         [[-1], [-1], [-1], [1, 0]])


class ContestAndTold(unittest.TestCase):
    def test_told_in_order(self):
        for contest in (LONE, HAWK_DOVE, ROCK_PAPER_SCISSORS, FOUR):
            self.assertEqual(one_of(contest, TOLD), [contest[0]] + contest[1])

    def test_a_later_contest_takes_the_place_of_the_earlier_one(self):
        self.assertEqual(
            ask((CONTEST,) + FOUR, (TOLD,), (CONTEST,) + LONE, (TOLD,), (VALUE, [1], [1]),
                (CONTEST,) + HAWK_DOVE, (EQUILIBRIA,), (CONTEST,) + MEETING, (EQUILIBRIA,), (TOLD,)),
            [[0], [4] + FOUR[1], [0], [1, -7], [0, -7, 1], [0], [1, 3, 0], [0], [3, 1, 2, 3, 0], [2, 2, 0, 0, 1]])

    def test_asking_changes_nothing(self):
        parts = ask_of(FOUR, (VALUE, [1, 2, 3, 4], [4, 3, 2, 1]), (REPLIES, [1, 1, 1, 1]), (SURVIVORS,),
                       (SUPPORT, [0, 3]), (EQUILIBRIA,), (TOLD,))
        self.assertEqual(parts[-1], [4] + FOUR[1])


class Value(unittest.TestCase):
    def test_rows_are_what_the_first_mixture_does(self):
        self.assertEqual(ask_of(HAWK_DOVE, (VALUE, [1, 0], [0, 1]), (VALUE, [0, 1], [1, 0])),
                         [[0, 4, 1], [0, 0, 1]])

    def test_one_strategy(self):
        self.assertEqual(one_of(LONE, VALUE, [3], [1000]), [0, -7, 1])

    def test_four_strategies(self):
        # Against 4 3 2 1 the rows win -70, -30, 10 and 50 tenths.
        self.assertEqual(one_of(FOUR, VALUE, [1, 2, 3, 4], [4, 3, 2, 1]), [0, 1, 1])
        self.assertEqual(one_of(FOUR, VALUE, [7, 0, 0, 2], [4, 3, 2, 1]), [0, -13, 3])

    def test_lowest_terms(self):
        self.assertEqual(one_of((2, [6, 0, 0, 0]), VALUE, [1, 1], [1, 1]), [0, 3, 2])
        self.assertEqual(one_of((2, [-6, 0, 0, 0]), VALUE, [1, 1], [1, 1]), [0, -3, 2])
        self.assertEqual(one_of((2, [-8, 0, 0, 0]), VALUE, [1, 1], [1, 1]), [0, -2, 1])
        self.assertEqual(one_of((2, [5, -5, -5, 5]), VALUE, [1, 1], [2, 3]), [0, 0, 1])

    def test_unlike_weights_of_one_mixture(self):
        for p in ([1, 2], [2, 4], [500, 1000]):
            for q in ([3, 1], [6, 2], [999, 333]):
                self.assertEqual(one_of(HAWK_DOVE, VALUE, p, q), one_of(HAWK_DOVE, VALUE, [1, 2], [3, 1]))
        self.assertEqual(one_of(HAWK_DOVE, VALUE, [1, 2], [3, 1]), [0, 5, 12])

    def test_greatest_weights_and_wins(self):
        self.assertEqual(one_of((4, [1000] * 16), VALUE, [1000] * 4, [1000] * 4), [0, 1000, 1])
        self.assertEqual(one_of((4, [-1000] * 16), VALUE, [1000, 0, 0, 1], [1, 1000, 0, 0]), [0, -1000, 1])
        self.assertEqual(one_of((2, [1, 0, 0, 0]), VALUE, [1, 1000], [1, 999]), [0, 1, 1001000])


class Replies(unittest.TestCase):
    def test_one_best(self):
        self.assertEqual(ask_of(HAWK_DOVE, (REPLIES, [0, 3]), (REPLIES, [3, 1])),
                         [[0, 4, 1, 1, 0], [0, 1, 2, 1, 1]])

    def test_several_win_alike(self):
        self.assertEqual(one_of(HAWK_DOVE, REPLIES, [2, 1]), [0, 2, 3, 2, 0, 1])
        self.assertEqual(one_of(ROCK_PAPER_SCISSORS, REPLIES, [5, 5, 5]), [0, 0, 1, 3, 0, 1, 2])
        self.assertEqual(one_of(ROCK_PAPER_SCISSORS, REPLIES, [1, 0, 1]), [0, 1, 2, 1, 0])
        self.assertEqual(one_of(AGAINST_OWN, REPLIES, [1, 0, 2, 0]), [0, 1, 1, 2, 1, 3])

    def test_one_strategy(self):
        self.assertEqual(one_of(LONE, REPLIES, [1]), [0, -7, 1, 1, 0])

    def test_four_strategies(self):
        self.assertEqual(one_of(FOUR, REPLIES, [4, 3, 2, 1]), [0, 5, 1, 1, 3])
        self.assertEqual(one_of(AGAINST_OWN, REPLIES, [1, 1, 1, 1]), [0, 3, 4, 4, 0, 1, 2, 3])

    def test_what_wins_most_may_be_below_0(self):
        self.assertEqual(one_of((2, [-3, -4, -4, -4]), REPLIES, [1, 1]), [0, -7, 2, 1, 0])

    def test_unlike_weights_of_one_mixture(self):
        self.assertEqual(one_of(HAWK_DOVE, REPLIES, [1000, 500]), [0, 2, 3, 2, 0, 1])


class Survivors(unittest.TestCase):
    def test_none_is_beaten(self):
        self.assertEqual(one_of(HAWK_DOVE, SURVIVORS), [2, 0, 1])
        self.assertEqual(one_of(ROCK_PAPER_SCISSORS, SURVIVORS), [3, 0, 1, 2])

    def test_one_is_beaten(self):
        self.assertEqual(one_of((2, [1, 5, 0, 3]), SURVIVORS), [1, 0])
        self.assertEqual(one_of((2, [0, 3, 1, 5]), SURVIVORS), [1, 1])

    def test_alike_against_one_is_not_beaten(self):
        self.assertEqual(one_of((2, [1, 5, 0, 5]), SURVIVORS), [2, 0, 1])
        self.assertEqual(one_of(ALIKE, SURVIVORS), [2, 0, 1])

    def test_one_strategy(self):
        self.assertEqual(one_of(LONE, SURVIVORS), [1, 0])

    def test_more_than_one_turn(self):
        # Only without 3 does 2 fall to 1, only without 2 does 1 fall to 0.
        wins = [5, 5, 2, 2,
                4, 4, 4, 2,
                3, 3, 3, 3,
                2, 2, 2, 2]
        self.assertEqual(one_of((4, wins), SURVIVORS), [1, 0])

    def test_two_turns_leave_two(self):
        # 3 falls to 2; only then does 2 fall to 1; 0 and 1 stay.
        wins = [9, 1, 0, 0,
                5, 5, 5, 0,
                4, 4, 4, 4,
                3, 3, 3, 3]
        self.assertEqual(one_of((4, wins), SURVIVORS), [2, 0, 1])

    def test_several_fall_at_once(self):
        wins = [3, 3, 3, 3, 2, 2, 2, 2, 1, 1, 1, 1, 4, 3, 3, 3]
        self.assertEqual(one_of((4, wins), SURVIVORS), [2, 0, 3])

    def test_going_up(self):
        wins = [0, 0, 0, 0, 1, 9, 1, 1, 0, 0, 0, 0, 1, 1, 1, 9]
        self.assertEqual(one_of((4, wins), SURVIVORS), [2, 1, 3])

    def test_two_others_together_beat_nobody(self):
        wins = [9, 0, 5, 0, 9, 5, 1, 1, 1]
        self.assertEqual(one_of((3, wins), SURVIVORS), [3, 0, 1, 2])


class Support(unittest.TestCase):
    def test_none_because_another_wins_more(self):
        self.assertEqual(ask_of(HAWK_DOVE, (SUPPORT, [0]), (SUPPORT, [1])), [[0], [0]])

    def test_none_because_a_share_would_be_below_0(self):
        # The equations say 2 and -1.
        self.assertEqual(one_of((2, [1, 4, 0, 2]), SUPPORT, [0, 1]), [0])

    def test_none_because_a_share_would_be_0(self):
        # The equations say 1 and 0: the support would be smaller.
        self.assertEqual(one_of((2, [1, 3, 1, 2]), SUPPORT, [0, 1]), [0])

    def test_shares_below_0_of_both_signs(self):
        self.assertEqual(one_of((2, [2, 0, 1, -3]), SUPPORT, [0, 1]), [0])
        self.assertEqual(one_of((2, [-3, 1, 0, 2]), SUPPORT, [0, 1]), [0])

    def test_another_may_win_alike(self):
        self.assertEqual(one_of(ALIKE, SUPPORT, [0]), [1, 1, 1, 0, 1, 1, 1])
        self.assertEqual(one_of(ALIKE, SUPPORT, [1]), [1, 0, 1, 1, 1, 1, 1])

    def test_singular(self):
        self.assertEqual(one_of(ALIKE, SUPPORT, [0, 1]), [-5])
        for pair in ([0, 1], [0, 2], [1, 2]):
            self.assertEqual(one_of(ROCK_PAPER_SCISSORS, SUPPORT, pair), [-5])

    def test_a_wins_table_without_inverse_need_not_be_singular(self):
        self.assertEqual(one_of(ROCK_PAPER_SCISSORS, SUPPORT, [0, 1, 2]), [1, 1, 3, 1, 3, 1, 3, 0, 1])

    def test_only_the_told_strategies_are_in_it(self):
        wins = [0, 9, 1, 0, 9, 0, 1, 0, 1, 3, 0, 0, 0, 0, 0, 0]
        self.assertEqual(one_of((4, wins), SUPPORT, [0, 1]), [1, 1, 2, 1, 2, 0, 1, 0, 1, 9, 2])
        self.assertEqual(one_of((4, wins), SUPPORT, [0, 2]), [0])

    def test_the_last_two_of_three(self):
        self.assertEqual(one_of((3, [0, -5, -5, 0, -1, 4, 0, 0, 2]), SUPPORT, [1, 2]),
                         [1, 0, 1, 2, 3, 1, 3, 2, 3])

    def test_one_strategy(self):
        self.assertEqual(one_of(LONE, SUPPORT, [0]), [1, 1, 1, -7, 1])

    def test_four_strategies(self):
        self.assertEqual(one_of(AGAINST_OWN, SUPPORT, [0, 1, 2, 3]), [1, 1, 4, 1, 4, 1, 4, 1, 4, 3, 4])
        self.assertEqual(one_of(AGAINST_OWN, SUPPORT, [0, 1, 3]), [0])
        self.assertEqual(one_of(IDENTITY, SUPPORT, [1, 3]), [1, 0, 1, 1, 2, 0, 1, 1, 2, 1, 2])
        self.assertEqual(one_of((4, [1, 0, 0, 0, 0, 2, 0, 0, 0, 0, 3, 0, 0, 0, 0, 4]), SUPPORT, [0, 1, 2, 3]),
                         [1, 12, 25, 6, 25, 4, 25, 3, 25, 12, 25])

    def test_value_below_0(self):
        self.assertEqual(one_of((2, [-3, -1, -1, -2]), SUPPORT, [0, 1]), [1, 1, 3, 2, 3, -5, 3])

    def test_greatest_wins(self):
        self.assertEqual(one_of((2, [-1000, 1000, 999, -1000]), SUPPORT, [0, 1]),
                         [1, 2000, 3999, 1999, 3999, -1000, 3999])


class Equilibria(unittest.TestCase):
    def test_one_strategy(self):
        self.assertEqual(one_of(LONE, EQUILIBRIA), [1, 1, 0])

    def test_without_singular_sets(self):
        self.assertEqual(one_of(IDENTITY, EQUILIBRIA), [15] + list(range(1, 16)) + [0])
        self.assertEqual(one_of(AGAINST_OWN, EQUILIBRIA), [1, 15, 0])

    def test_singular_because_of_many_solutions(self):
        self.assertEqual(one_of(ALIKE, EQUILIBRIA), [2, 1, 2, 1, 3])
        self.assertEqual(one_of((4, [0] * 16), EQUILIBRIA),
                         [4, 1, 2, 4, 8, 11, 3, 5, 6, 7, 9, 10, 11, 12, 13, 14, 15])

    def test_singular_because_of_no_solution(self):
        self.assertEqual(one_of(ROCK_PAPER_SCISSORS, EQUILIBRIA), [1, 7, 3, 3, 5, 6])

    def test_singular_of_both_sorts(self):
        contest = (4, [0, -1, 1, 0, 1, 0, -1, 0, -1, 1, 0, 0, 0, 0, 0, 0])
        self.assertEqual(ask_of(contest, (EQUILIBRIA,), (SUPPORT, [3]), (SUPPORT, [0, 1, 2, 3])),
                         [[2, 7, 8, 7, 3, 5, 6, 9, 10, 12, 15], [1, 0, 1, 0, 1, 0, 1, 1, 1, 0, 1], [-5]])

    def test_only_a_singular_set_is_at_rest(self):
        # Half 0 and half 1 is at rest, but so are many mixtures of the two, and 0 or 1 alone is not.
        wins = [0, 0, 5, 10,
                0, 0, 10, 5,
                1, -2, 0, 0,
                -2, 1, 0, 0]
        self.assertEqual(one_of((4, wins), EQUILIBRIA), [0, 2, 3, 12])

    def test_agrees_with_support(self):
        for contest in (HAWK_DOVE, MEETING, ROCK_PAPER_SCISSORS, ALIKE, FOUR, IDENTITY, AGAINST_OWN):
            sets = [[i for i in range(contest[0]) if number >> i & 1] for number in range(1, 1 << contest[0])]
            firsts = [part[0] for part in ask_of(contest, *[(SUPPORT, each) for each in sets])]
            resting = [number for number, first in enumerate(firsts, 1) if first == 1]
            singular = [number for number, first in enumerate(firsts, 1) if first == -5]
            self.assertEqual(one_of(contest, EQUILIBRIA), [len(resting)] + resting + [len(singular)] + singular)


if __name__ == "__main__":
    unittest.main()
