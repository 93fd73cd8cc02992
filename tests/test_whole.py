"""What is said of the whole program: nothing is changed, nothing is kept, long lists are gone through."""

import contextlib
import io
import unittest

from contestways.contest import answers
from tests.helper import (
    BEARS, CONTEST, EQUILIBRIA, GROW, REPLIES, SCALE, SHIFT, STABLE, STABLES, SUB, SUPPORT, SURVIVORS, TOLD, VALUE,
    Untouchable, ask, laid_out)

MIXED = (
    (TOLD,), (CONTEST, 3, [0, -1, 1, 1, 0, -1, -1, 1, 0]), (EQUILIBRIA,), (SUPPORT, [0, 1, 2]), (SUPPORT, [0, 1]),
    (CONTEST, 3, [0] * 8), (VALUE, [1, 2, 3], [3, 2, 1]), (REPLIES, [1, 2, 3]), (SURVIVORS,), (SUPPORT, [2, 1]),
    (STABLE, [1, 1, 1]), (STABLES,), (SHIFT, [3, 2, 1]), (GROW, 3, [1, 2, 3]), (BEARS, [1, 0, 0], [0, 1, 1]),
    (SCALE, 7), (TOLD,), (SCALE, 0), (SUB, [0, 2]), (STABLES,),
)


class NothingIsChangedOrKept(unittest.TestCase):
    def test_the_list_is_the_same_afterwards(self):
        line = laid_out(MIXED)
        before = list(line)
        answers(line)
        self.assertEqual(line, before)

    def test_the_list_is_not_changed_for_a_while(self):
        line = laid_out(MIXED)
        self.assertEqual(answers(Untouchable(line)), answers(line))

    def test_a_second_time_answers_as_the_first(self):
        line = laid_out(MIXED)
        first = answers(line)
        copy = list(first)
        self.assertEqual(answers(line), copy)
        self.assertEqual(answers(laid_out(MIXED)), copy)
        self.assertEqual(first, copy)

    def test_a_new_list_begins_with_the_contest_of_one_strategy(self):
        ask((CONTEST, 2, [1, 2, 3, 4]))
        self.assertEqual(ask((TOLD,)), [[1, 0]])

    def test_changing_what_was_given_back_changes_nothing_later(self):
        line = laid_out(MIXED)
        first = answers(line)
        copy = list(first)
        for place in range(len(first)):
            first[place] = 77
        self.assertEqual(answers(line), copy)

    def test_it_prints_nothing(self):
        printed = io.StringIO()
        with contextlib.redirect_stdout(printed), contextlib.redirect_stderr(printed):
            answers(laid_out(MIXED))
        self.assertEqual(printed.getvalue(), "")


class LongLists(unittest.TestCase):
    def test_one_call(self):
        self.assertEqual(answers([1]), [2, 1, 0])

    def test_400_mixed_calls(self):
        first = ask(*MIXED)
        again = [[2, 21, 14, 14, 7]] + first[1:]
        self.assertEqual(first[16], [3, 21, 7, 14, 28, 14, 0, 14, 21, 7])
        self.assertEqual({call[0] for call in MIXED}, set(range(14)))
        self.assertEqual(ask(*(MIXED * 20)), first + again * 19)

    def test_400_contests(self):
        calls = []
        answered = []
        for turn in range(200):
            n = turn % 4 + 1
            wins = [turn - place for place in range(n * n)]
            calls.extend([(CONTEST, n, wins), (TOLD,)])
            answered.extend([[0], [n] + wins])
        self.assertEqual(ask(*calls), answered)

    def test_16000_numbers(self):
        line = laid_out([(SUPPORT, [0] * 38)] * 400)
        self.assertEqual(len(line), 16000)
        self.assertEqual(answers(line), [1, -1] * 400)

    def test_400_equilibria_of_four_strategies(self):
        wins = [17, -903, 44, 1000, 5, 5, -1000, 731, 999, -2, 61, 0, -77, 400, 8, 13]
        parts = ask((CONTEST, 4, wins), *[(EQUILIBRIA,)] * 399)
        self.assertEqual(parts[1:], [parts[1]] * 399)

    def test_400_stables_of_four_strategies(self):
        wins = [1 if i == j else 0 for i in range(4) for j in range(4)]
        self.assertEqual(ask((CONTEST, 4, wins), *[(STABLES,)] * 399), [[0]] + [[4, 1, 2, 4, 8]] * 399)

    def test_400_times_grown_far(self):
        wins = [999, 1, 998, 7, 13, 997, 11, 996, 994, 3, 995, 17, 19, 993, 5, 992]
        parts = ask((CONTEST, 4, wins), (SCALE, 100), (SCALE, 9), *[(GROW, 5, [997, 991, 983, 977])] * 397)
        self.assertEqual(parts[3:], [parts[3]] * 397)


if __name__ == "__main__":
    unittest.main()
