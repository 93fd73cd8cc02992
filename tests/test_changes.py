"""The call grow, which changes a mixture, and the calls shift, scale and sub, which change the contest."""

import unittest

from tests import words
from tests.helper import (
    BEARS, CONTEST, EQUILIBRIA, GROW, REPLIES, SCALE, SHIFT, STABLE, STABLES, SUB, SUPPORT, SURVIVORS, TOLD, VALUE,
    ask, ask_of, one_of)

HAWK_DOVE = (2, [-1, 4, 0, 2])
MEETING = (2, [2, 0, 0, 1])
LADDER = (3, [0, 1, 1, 0, 0, 1, 0, 0, 0])
FOUR = (4, [7, 1, 0, 3, 2, 9, 4, 4, 0, 0, 1, 8, 6, 5, 3, 2])
IDENTITY = (4, [1, 0, 0, 0, 0, 1, 0, 0, 0, 0, 1, 0, 0, 0, 0, 1])
MOST = 1000000


class Grow(unittest.TestCase):
    def test_example(self):
        self.assertEqual(one_of(MEETING, GROW, 1, [1, 1]), [0, 2, 3, 1, 3])

    def test_before_a_contest_is_told(self):
        self.assertEqual(ask((GROW, 0, [7]), (GROW, 1, [7]), (GROW, 5, [7])), [[0, 1, 1], [-8], [-8]])

    def test_each_number_of_times(self):
        # The odds are squared and doubled each time.
        self.assertEqual(
            ask_of(MEETING, *[(GROW, t, [1, 1]) for t in range(6)]),
            [[0, 1, 2, 1, 2], [0, 2, 3, 1, 3], [0, 8, 9, 1, 9], [0, 128, 129, 1, 129], [0, 32768, 32769, 1, 32769],
             [0, 2147483648, 2147483649, 1, 2147483649]])

    def test_0_times_tells_the_mixture(self):
        self.assertEqual(one_of(MEETING, GROW, 0, [1000, 500]), [0, 2, 3, 1, 3])
        self.assertEqual(one_of((2, [0] * 4), GROW, 0, [0, 9]), [0, 0, 1, 1, 1])
        self.assertEqual(one_of(FOUR, GROW, 0, [2, 0, 4, 6]), [0, 1, 6, 0, 1, 1, 3, 1, 2])

    def test_one_strategy(self):
        for t in range(6):
            self.assertEqual(one_of((1, [3]), GROW, t, [9]), [0, 1, 1])

    def test_what_wins_alike_stays(self):
        self.assertEqual(one_of((3, [5] * 9), GROW, 5, [1, 2, 3]), [0, 1, 6, 1, 3, 1, 2])
        self.assertEqual(one_of(MEETING, GROW, 5, [1, 2]), [0, 1, 3, 2, 3])
        self.assertEqual(one_of((3, [0, 1, 2, 2, 0, 1, 1, 2, 0]), GROW, 5, [4, 4, 4]), [0, 1, 3, 1, 3, 1, 3])

    def test_share_0_stays_0(self):
        self.assertEqual(one_of((2, [1, 1, 1000, 1000]), GROW, 5, [1, 0]), [0, 1, 1, 0, 1])
        self.assertEqual(one_of(FOUR, GROW, 1, [0, 1, 0, 1]), [0, 0, 1, 13, 20, 0, 1, 7, 20])

    def test_a_share_becomes_0(self):
        self.assertEqual(one_of(LADDER, GROW, 1, [1, 1, 1]), [0, 2, 3, 1, 3, 0, 1])
        self.assertEqual(one_of(LADDER, GROW, 2, [1, 1, 1]), [0, 1, 1, 0, 1, 0, 1])

    def test_four_strategies(self):
        # Against the even mixture the four win 11, 19, 9 and 16 quarters.
        self.assertEqual(one_of(FOUR, GROW, 1, [3, 3, 3, 3]), [0, 1, 5, 19, 55, 9, 55, 16, 55])

    def test_unlike_weights_of_one_mixture(self):
        for t in range(6):
            self.assertEqual(one_of(FOUR, GROW, t, [1, 2, 3, 4]), one_of(FOUR, GROW, t, [250, 500, 750, 1000]))

    def test_long_numerators(self):
        wins = [999, 1, 998, 7, 13, 997, 11, 996, 994, 3, 995, 17, 19, 993, 5, 992]
        answered = one_of((4, wins), GROW, 5, [997, 991, 983, 977])
        self.assertGreater(max(answered), 10 ** 190)
        self.assertEqual(answered, words.grow(4, wins, 5, words.shares([997, 991, 983, 977])))

    def test_nothing_won_the_first_time(self):
        self.assertEqual(one_of((2, [0] * 4), GROW, 1, [1, 1]), [-8])
        self.assertEqual(one_of((2, [0, 1, 1, 1]), GROW, 1, [1, 0]), [-8])
        self.assertEqual(one_of((4, [0, 0, 9, 9, 0, 0, 9, 9, 9, 9, 9, 9, 9, 9, 9, 9]), GROW, 5, [1, 3, 0, 0]), [-8])

    def test_nothing_won_at_a_later_time(self):
        self.assertEqual(ask_of(LADDER, *[(GROW, t, [1, 1, 1]) for t in range(2, 6)]),
                         [[0, 1, 1, 0, 1, 0, 1], [-8], [-8], [-8]])
        longer = (4, [0, 1, 1, 1, 0, 0, 1, 1, 0, 0, 0, 1, 0, 0, 0, 0])
        self.assertEqual(ask_of(longer, *[(GROW, t, [1, 1, 1, 1]) for t in range(1, 6)]),
                         [[0, 1, 2, 1, 3, 1, 6, 0, 1], [0, 9, 11, 2, 11, 0, 1, 0, 1], [0, 1, 1, 0, 1, 0, 1, 0, 1],
                          [-8], [-8]])

    def test_a_win_below_0(self):
        for t in range(6):
            self.assertEqual(one_of(HAWK_DOVE, GROW, t, [1, 1]), [-7])
        # Also where the strategy, or the one it meets, isn't in the mixture.
        for place in range(9):
            wins = [5] * 9
            wins[place] = -1
            for p in ([1, 0, 0], [0, 1, 0], [0, 0, 1], [1, 1, 1]):
                self.assertEqual(one_of((3, wins), GROW, 1, p), [-7])

    def test_a_win_below_0_comes_before_nothing_won(self):
        for t in (0, 1, 5):
            self.assertEqual(one_of((2, [0, 0, 0, -1]), GROW, t, [1, 0]), [-7])
            self.assertEqual(one_of((2, [1, 0, -1, 0]), GROW, t, [0, 1]), [-7])

    def test_the_contest_stays(self):
        self.assertEqual(
            ask_of(MEETING, (GROW, 5, [1, 1]), (TOLD,), (GROW, 1, [1, 1]), (TOLD,), (GROW, 1, [1, 1]), (STABLES,)),
            [[0, 2147483648, 2147483649, 1, 2147483649], [2, 2, 0, 0, 1], [0, 2, 3, 1, 3], [2, 2, 0, 0, 1],
             [0, 2, 3, 1, 3], [2, 1, 2]])


class Shift(unittest.TestCase):
    def test_each_column_grows_by_its_number(self):
        self.assertEqual(ask_of(FOUR, (SHIFT, [10, -20, 300, 0]), (TOLD,)),
                         [[0], [4, 17, -19, 300, 3, 12, -11, 304, 4, 10, -20, 301, 8, 16, -15, 303, 2]])
        self.assertEqual(ask_of(HAWK_DOVE, (SHIFT, [1, 5]), (TOLD,)), [[0], [2, 0, 9, 1, 7]])
        self.assertEqual(ask_of((3, list(range(9))), (SHIFT, [100, 200, 300]), (TOLD,)),
                         [[0], [3, 100, 201, 302, 103, 204, 305, 106, 207, 308]])

    def test_before_a_contest_is_told(self):
        self.assertEqual(ask((SHIFT, [-5]), (TOLD,), (SHIFT, [2]), (TOLD,)), [[0], [1, -5], [0], [1, -3]])

    def test_edges_of_the_numbers(self):
        self.assertEqual(ask_of(HAWK_DOVE, (SHIFT, [1000, -1000]), (TOLD,)), [[0], [2, 999, -996, 1000, -998]])
        self.assertEqual(ask_of(HAWK_DOVE, (SHIFT, [0, 0]), (TOLD,)), [[0], [2, -1, 4, 0, 2]])

    def test_several_times(self):
        self.assertEqual(ask_of(HAWK_DOVE, *[(SHIFT, [1000, -1000])] * 398, (TOLD,))[-1],
                         [2, 397999, -397996, 398000, -397998])

    def test_what_a_shift_leaves_as_it_is(self):
        calls = [(EQUILIBRIA,), (STABLES,), (SURVIVORS,), (STABLE, [1, 1, 1, 1]), (BEARS, [1, 0, 0, 0], [0, 1, 1, 2])]
        for contest in (FOUR, IDENTITY):
            parts = ask_of(contest, *calls, (SHIFT, [1000, -3, 0, 17]), *calls)
            self.assertEqual(parts[:5], parts[6:])


class Scale(unittest.TestCase):
    def test_every_win_is_multiplied(self):
        self.assertEqual(ask_of(FOUR, (SCALE, 7), (TOLD,)), [[0], [4] + [7 * win for win in FOUR[1]]])
        self.assertEqual(ask_of(HAWK_DOVE, (SCALE, 3), (TOLD,)), [[0], [2, -3, 12, 0, 6]])

    def test_before_a_contest_is_told(self):
        self.assertEqual(ask((SCALE, 100), (TOLD,)), [[0], [1, 0]])

    def test_edges_of_the_number(self):
        self.assertEqual(ask_of(HAWK_DOVE, (SCALE, 1), (TOLD,), (SCALE, 100), (TOLD,)),
                         [[0], [2, -1, 4, 0, 2], [0], [2, -100, 400, 0, 200]])

    def test_what_a_scale_leaves_as_it_is(self):
        calls = [(EQUILIBRIA,), (STABLES,), (SURVIVORS,), (STABLE, [1, 1, 1, 1]), (BEARS, [1, 0, 0, 0], [0, 1, 1, 2]),
                 (GROW, 3, [1, 2, 3, 4])]
        for contest in (FOUR, IDENTITY):
            parts = ask_of(contest, *calls, (SCALE, 100), *calls)
            self.assertEqual(parts[:6], parts[7:])


class WinsThatGrowFar(unittest.TestCase):
    def test_just_the_most_by_scale(self):
        for sign in (1, -1):
            self.assertEqual(
                ask_of((1, [sign * 1000]), (SCALE, 100), (SCALE, 10), (TOLD,), (SCALE, 1), (TOLD,),
                       (SCALE, 2), (TOLD,)),
                [[0], [0], [1, sign * MOST], [0], [1, sign * MOST], [-9], [1, sign * MOST]])

    def test_just_beyond_by_scale(self):
        # No number up to 100 divides 1000001, but 2 divides 1000002.
        for sign in (1, -1):
            self.assertEqual(
                ask_of((1, [sign * 1000]), (SCALE, 100), (SCALE, 5), (SHIFT, [sign]), (SCALE, 2), (TOLD,),
                       (SHIFT, [-sign]), (SCALE, 2), (TOLD,)),
                [[0], [0], [0], [-9], [1, sign * 500001], [0], [0], [1, sign * MOST]])

    def test_just_the_most_by_shift_and_just_beyond(self):
        for sign in (1, -1):
            self.assertEqual(
                ask_of((1, [sign * 1000]), (SCALE, 100), (SCALE, 10), (SHIFT, [0]), (SHIFT, [sign]), (TOLD,),
                       (SHIFT, [-sign]), (TOLD,), (SHIFT, [sign * 2]), (TOLD,), (SHIFT, [sign]), (TOLD,),
                       (SHIFT, [sign * 1000]), (TOLD,)),
                [[0], [0], [0], [-9], [1, sign * MOST], [0], [1, sign * (MOST - 1)], [-9], [1, sign * (MOST - 1)],
                 [0], [1, sign * MOST], [-9], [1, sign * MOST]])

    def test_by_many_shifts(self):
        for sign in (1, -1):
            calls = [(SCALE, 100), (SCALE, 9)] + [(SHIFT, [sign * 1000])] * 102 + [(TOLD,)]
            self.assertEqual(ask_of((1, [sign * 1000]), *calls), [[0]] * 102 + [[-9]] * 2 + [[1, sign * MOST]])

    def test_one_win_too_far_keeps_all_as_it_is(self):
        for n in (1, 2, 3, 4):
            for place in range(n * n):
                for win in (1000, -1000):
                    wins = [3] * (n * n)
                    wins[place] = win
                    grown = [100 * each for each in wins]
                    kept = [n] + grown
                    self.assertEqual(ask_of((n, wins), (SCALE, 100), (SCALE, 11), (TOLD,), (SCALE, 10), (SCALE, 2),
                                            (SHIFT, [win] * n), (SHIFT, [win // 1000] * n), (TOLD,)),
                                     [[0], [-9], kept, [0], [-9], [-9], [-9], [n] + [10 * each for each in grown]])

    def test_only_the_column_of_the_number_counts(self):
        wins = [1000, 0, -1000, 0]
        self.assertEqual(
            ask_of((2, wins), (SCALE, 100), (SCALE, 10), (SHIFT, [0, 1000]), (SHIFT, [1, 0]), (SHIFT, [-1, 0]),
                   (TOLD,)),
            [[0], [0], [0], [-9], [-9], [2, MOST, 1000, -MOST, 1000]])

    def test_a_refused_change_leaves_the_next_one_as_it_would_have_been(self):
        calls = [(SCALE, 100), (SCALE, 5)]
        refused = [(SCALE, 3), (SHIFT, [1001, 0]), (SCALE, 100), (SHIFT, [0])]
        rest = [(SHIFT, [1, 2]), (TOLD,), (EQUILIBRIA,)]
        contest = (2, [1000, 0, 0, 999])
        parts = ask_of(contest, *calls, *refused, *rest)
        self.assertEqual(parts[2:6], [[-9], [-1], [-9], [-1]])
        self.assertEqual(parts[:2] + parts[6:], ask_of(contest, *calls, *rest))

    def test_asking_of_wins_that_have_grown(self):
        grown = [(SCALE, 100), (SCALE, 10)]
        self.assertEqual(
            ask_of((2, [1000, 0, 0, 999]), *grown, (TOLD,), (VALUE, [1, 1], [1, 2]), (REPLIES, [1, 1]),
                   (SUPPORT, [0, 1]), (EQUILIBRIA,), (STABLE, [999, 1000]), (STABLE, [0, 1]), (STABLES,),
                   (GROW, 1, [1, 1]), (BEARS, [1, 0], [0, 1]), (SURVIVORS,))[2:],
            [[2, MOST, 0, 0, 999000], [0, 1499000, 3], [0, 500000, 1, 1, 0],
             [1, 999, 1999, 1000, 1999, 999000000, 1999], [3, 1, 2, 3, 0], [0], [1], [2, 1, 2],
             [0, 1000, 1999, 999, 1999], [1000, 1999], [2, 0, 1]])

    def test_all_calls_agree_with_the_words_on_grown_wins(self):
        contests = (HAWK_DOVE, MEETING, (2, [-1000, 1000, 999, -1000]), FOUR,
                    (3, [0, -999, 1000, 1000, 0, -998, -997, 1000, 0]),
                    (4, [1000, 999, 998, 997, 3, 1000, 5, 7, 999, 0, 1000, 0, 2, 4, 6, 1000]))
        for n, wins in contests:
            p, q = [1000, 999, 998, 997][:n], [1, 2, 3, 4][:n]
            calls = [(CONTEST, n, wins), (SCALE, 100), (SHIFT, [1000, -1000, 999, -999][:n]), (SCALE, 9),
                     (SHIFT, [-1000, 1000, 999, 1][:n]), (TOLD,), (VALUE, p, q), (REPLIES, q), (SURVIVORS,),
                     (EQUILIBRIA,), (STABLE, p), (STABLE, [1] * n), (STABLES,), (BEARS, p, q), (BEARS, q, p)]
            calls.extend((SUPPORT, strategies) for strategies in words.sets_of(n))
            calls.extend((GROW, t, p) for t in range(6))
            model = words.Words()
            answered = [model.answer(call) for call in calls]
            self.assertEqual(answered[:5], [[0]] * 5)
            self.assertEqual(ask(*calls), answered)

    def test_the_longest_numerators(self):
        wins = [1000, 1, 999, 7, 13, 1000, 11, 997, 991, 3, 1000, 17, 19, 983, 5, 1000]
        calls = [(CONTEST, 4, wins), (SCALE, 100), (SHIFT, [0, 1, 2, 3]), (SCALE, 9), (SHIFT, [1, 5, 7, 11]),
                 (GROW, 5, [997, 991, 983, 977])]
        model = words.Words()
        answered = [model.answer(call) for call in calls]
        self.assertGreater(max(answered[-1]), 10 ** 250)
        self.assertEqual(ask(*calls), answered)


class Sub(unittest.TestCase):
    def test_some(self):
        self.assertEqual(ask_of(FOUR, (SUB, [1, 3]), (TOLD,)), [[2], [2, 9, 4, 5, 2]])
        self.assertEqual(ask_of(FOUR, (SUB, [0, 2, 3]), (TOLD,)), [[3], [3, 7, 0, 3, 0, 1, 8, 6, 3, 2]])
        self.assertEqual(ask_of((3, list(range(9))), (SUB, [0, 2]), (TOLD,)), [[2], [2, 0, 2, 6, 8]])

    def test_one(self):
        for strategy, own in enumerate((7, 9, 1, 2)):
            self.assertEqual(ask_of(FOUR, (SUB, [strategy]), (TOLD,)), [[1], [1, own]])
        self.assertEqual(ask((SUB, [0]), (TOLD,)), [[1], [1, 0]])

    def test_all(self):
        for n, wins in ((1, [-7]), HAWK_DOVE, (3, list(range(9))), FOUR):
            self.assertEqual(ask_of((n, wins), (SUB, list(range(n))), (TOLD,)), [[n], [n] + wins])

    def test_told_anew_by_their_new_numbers(self):
        self.assertEqual(
            ask_of(FOUR, (SUB, [1, 2, 3]), (TOLD,), (SUB, [1, 3]), (SUB, [1, 2]), (TOLD,), (SUB, [2]), (SUB, [1]),
                   (TOLD,), (SUB, [1]), (SUB, [0]), (TOLD,)),
            [[3], [3, 9, 4, 4, 0, 1, 8, 5, 3, 2], [-1], [2], [2, 1, 8, 3, 2], [-1], [1], [1, 2], [-1], [1], [1, 2]])

    def test_calls_on_the_smaller_contest(self):
        # 1 and 3 are hawk and dove.
        contest = (4, [9, 9, 9, 9, 9, -1, 9, 4, 9, 9, 9, 9, 9, 0, 9, 2])
        self.assertEqual(
            ask_of(contest, (SUB, [1, 3]), (EQUILIBRIA,), (SUPPORT, [0, 1]), (STABLE, [2, 1]), (STABLE, [2, 1, 0]),
                   (STABLES,), (BEARS, [2, 1], [1, 0]), (REPLIES, [1, 0]), (VALUE, [2, 1], [1, 0]), (SURVIVORS,),
                   (GROW, 1, [1, 1]), (SHIFT, [1, 0]), (GROW, 1, [1, 1]), (SCALE, 2), (SUPPORT, [2]), (TOLD,)),
            [[2], [1, 3, 0], [1, 2, 3, 1, 3, 2, 3], [1], [-1], [1, 3], [1, 1], [0, 0, 1, 1, 1], [0, -2, 3], [2, 0, 1],
             [-7], [0], [0, 4, 7, 3, 7], [0], [-1], [2, 0, 8, 2, 4]])

    def test_a_new_contest_behind_it(self):
        self.assertEqual(ask_of(FOUR, (SUB, [2]), (CONTEST,) + FOUR, (TOLD,)), [[1], [0], [4] + FOUR[1]])

    def test_after_shift_and_scale(self):
        self.assertEqual(ask_of(FOUR, (SHIFT, [1, 2, 3, 4]), (SCALE, 10), (SUB, [0, 3]), (TOLD,), (SHIFT, [5, 6]),
                                (TOLD,)),
                         [[0], [0], [2], [2, 80, 70, 70, 60], [0], [2, 85, 76, 75, 66]])


if __name__ == "__main__":
    unittest.main()
