"""The calls stable, stables and bears."""

import itertools
import unittest
from fractions import Fraction

from tests import words
from tests.helper import BEARS, EQUILIBRIA, REPLIES, STABLE, STABLES, SUPPORT, ask, ask_of, one_of

HAWK_DOVE = (2, [-1, 4, 0, 2])
MEETING = (2, [2, 0, 0, 1])
ALIKE = (2, [1, 1, 1, 1])
LONE = (1, [-7])
IDENTITY = (4, [1, 0, 0, 0, 0, 1, 0, 0, 0, 0, 1, 0, 0, 0, 0, 1])
AGAINST_OWN = (4, [0, 1, 1, 1, 1, 0, 1, 1, 1, 1, 0, 1, 1, 1, 1, 0])
EVEN_CIRCLE = (3, [0, -1, 1, 1, 0, -1, -1, 1, 0])
GOOD_CIRCLE = (3, [0, -1, 2, 2, 0, -1, -1, 2, 0])
BAD_CIRCLE = (3, [0, -2, 1, 1, 0, -2, -2, 1, 0])


def beside_first(losses):
    """A contest where all is best against strategy 0, and where the others lose this much to one another."""
    rows = [[0] * (len(losses) + 1)] + [[0] + [-loss for loss in row] for row in losses]
    return (len(rows), [win for row in rows for win in row])


def hawk_dove_and(row, column, own):
    """Hawk and dove and a third strategy: what it wins against both, what both win against it, its own."""
    return (3, [-1, 4, column[0], 0, 2, column[1], row[0], row[1], own])


class StableCase(unittest.TestCase):
    def assert_stable(self, contest, p):
        self.assertEqual(one_of(contest, STABLE, p), [1], (contest, p))

    def assert_unstable(self, contest, p):
        self.assertEqual(one_of(contest, STABLE, p), [0], (contest, p))

    def assert_invaded(self, contest, p, q):
        """p is at rest, but not stable, and q shows it."""
        n, wins = contest
        p_shares, q_shares = words.shares(p), words.shares(q)
        self.assertTrue(words.at_rest(n, wins, p_shares))
        self.assertNotEqual(p_shares, q_shares)
        self.assertFalse(words.withstands(wins, p_shares, q_shares))
        self.assert_unstable(contest, p)

    def assert_as_good(self, contest, p, q):
        """q wins as much as p against p, and as much as p against q."""
        wins = contest[1]
        p_shares, q_shares = words.shares(p), words.shares(q)
        self.assertEqual(words.win(wins, p_shares, p_shares), words.win(wins, q_shares, p_shares))
        self.assertEqual(words.win(wins, p_shares, q_shares), words.win(wins, q_shares, q_shares))
        self.assert_invaded(contest, p, q)

    def outside(self, contest, p):
        best = one_of(contest, REPLIES, p)[4:]
        return [i for i in best if p[i] == 0]


class StableOfTheDocument(StableCase):
    def test_examples(self):
        self.assertEqual(ask_of(HAWK_DOVE, (STABLE, [2, 1]), (STABLE, [1, 1])), [[1], [0]])

    def test_before_a_contest_is_told(self):
        self.assertEqual(ask((STABLE, [1]), (STABLE, [1000])), [[1], [1]])

    def test_one_strategy_has_no_other_mixture(self):
        for win in (-1000, -7, 0, 1000):
            self.assert_stable((1, [win]), [3])

    def test_unlike_weights_of_one_mixture(self):
        for p in ([2, 1], [4, 2], [666, 333], [1000, 500]):
            self.assert_stable(HAWK_DOVE, p)
        for p in ([1, 1], [2, 2], [1000, 1000], [999, 500], [665, 333]):
            self.assert_unstable(HAWK_DOVE, p)
        for p in ([1, 2], [500, 1000]):
            self.assert_unstable(MEETING, p)
        for p in ([1, 0], [1000, 0], [0, 1], [0, 1000]):
            self.assert_stable(MEETING, p)


class StableOrNotAtRest(StableCase):
    def test_two(self):
        for p in ([1, 0], [0, 1], [1, 2], [1000, 1]):
            self.assert_unstable(HAWK_DOVE, p)
        self.assert_unstable(MEETING, [1, 1])

    def test_three_and_four(self):
        for p in ([1, 0, 0], [1, 1, 0], [1, 1, 2]):
            self.assert_unstable(GOOD_CIRCLE, p)
        for p in ([1, 0, 0, 0], [1, 1, 0, 0], [1, 1, 1, 0], [1, 1, 1, 2], [0, 1, 0, 0]):
            self.assert_unstable(AGAINST_OWN, p)

    def test_a_strategy_of_the_support_wins_less_though_the_first_is_best(self):
        self.assert_unstable((2, [1, 1, 0, 0]), [1, 1])
        self.assert_unstable((3, [1, 1, 1, 1, 1, 1, 0, 0, 0]), [0, 1, 1])


class StableWithoutOthersOutside(StableCase):
    def test_alone_and_better_than_all(self):
        for p in ([1, 0, 0, 0], [0, 7, 0, 0], [0, 0, 1000, 0], [0, 0, 0, 1]):
            self.assert_stable(IDENTITY, p)

    def test_all_are_in_it(self):
        self.assert_stable(GOOD_CIRCLE, [1, 1, 1])
        self.assert_stable(AGAINST_OWN, [9, 9, 9, 9])

    def test_invaded_by_a_strategy_of_the_support(self):
        self.assert_invaded(MEETING, [1, 2], [1, 0])
        self.assert_invaded(MEETING, [1, 2], [0, 1])
        self.assert_invaded(BAD_CIRCLE, [1, 1, 1], [1, 0, 0])
        self.assert_invaded(IDENTITY, [1, 1, 1, 1], [0, 0, 0, 1])
        self.assert_invaded(IDENTITY, [0, 1, 0, 1], [0, 1, 0, 0])

    def test_as_good_as_a_mixture_of_the_support(self):
        self.assert_as_good(EVEN_CIRCLE, [1, 1, 1], [1, 0, 0])
        self.assert_as_good(EVEN_CIRCLE, [1, 1, 1], [2, 1, 0])
        self.assert_as_good(ALIKE, [1, 1], [1, 0])
        self.assert_as_good((3, [0] * 9), [1, 1, 1], [1, 1, 2])

    def test_invaded_by_mixtures_alone(self):
        for wins, q in (([1, 1, 0, 2, -3, 3, 1, 0, 1], [0, 1, 2]), ([-1, 1, 2, 2, -1, 1, 3, -2, 1], [1, 0, 2]),
                        ([1, 2, -3, 1, -1, 0, 2, 0, -2], [2, 1, 0])):
            for i in range(3):
                self.assertTrue(words.withstands(wins, words.shares([1, 1, 1]), words.alone(3, i)))
            self.assert_invaded((3, wins), [1, 1, 1], q)

    def test_a_saddle_of_three(self):
        # It falls towards 0 and 1, and rises towards 2.
        self.assert_invaded((3, [0, 1, 0, 1, 0, 0, -1, -1, 3]), [1, 1, 1], [0, 0, 1])


class StableWithOneOutside(StableCase):
    def test_beside_one(self):
        self.assert_stable(beside_first([[1]]), [1, 0])
        self.assert_as_good(beside_first([[0]]), [1, 0], [0, 1])
        self.assert_invaded(beside_first([[-1]]), [1, 0], [0, 1])

    def test_what_the_first_wins_against_the_other_counts(self):
        self.assert_stable((2, [0, 6, 0, 5]), [1, 0])
        self.assert_as_good((2, [0, 5, 0, 5]), [1, 0], [1, 3])
        self.assert_invaded((2, [0, 4, 0, 5]), [1, 0], [1, 3])
        self.assert_stable((2, [5, 0, 6, 0]), [0, 5])

    def test_beside_two(self):
        p = [2, 1, 0]
        stable = hawk_dove_and([1, 0], [5, 5], 0)
        self.assertEqual(self.outside(stable, p), [2])
        self.assert_stable(stable, p)
        self.assert_as_good(hawk_dove_and([0, 2], [5, 0], 0), p, [2, 0, 1])
        self.assert_invaded(hawk_dove_and([1, 0], [5, 5], 9), p, [0, 0, 1])

    def test_beside_two_invaded_together_with_one_of_the_support_alone(self):
        # No strategy alone does better, but 1 and 2 together do.
        contest = hawk_dove_and([-1, 4], [-3, 7], -9)
        for q in ([0, 0, 1], [1, 0, 0], [0, 1, 0]):
            self.assertTrue(words.withstands(contest[1], words.shares([2, 1, 0]), words.shares(q)))
        self.assert_invaded(contest, [2, 1, 0], [0, 2, 1])

    def test_beside_three(self):
        # 3 wins as much as the others against their even mixture.
        circle = [0, -1, 2, 5, 2, 0, -1, 5, -1, 2, 0, 5]
        p = [1, 1, 1, 0]
        self.assertEqual(self.outside((4, circle + [1, 1, -1, 3]), p), [3])
        self.assert_stable((4, circle + [1, 1, -1, 3]), p)
        self.assert_invaded((4, circle + [1, 1, -1, 4]), p, [1, 1, 0, 1])
        self.assert_stable((4, circle + [1, 0, 0, 4]), p)
        self.assert_as_good((4, circle + [1, 0, 0, 5]), p, [0, 0, 0, 1])
        self.assert_invaded((4, circle + [1, 0, 0, 6]), p, [0, 0, 0, 1])

    def test_a_copy_of_a_strategy_is_as_good(self):
        self.assert_as_good(hawk_dove_and([-1, 4], [-1, 0], -1), [2, 1, 0], [1, 1, 1])
        self.assert_as_good(hawk_dove_and([-1, 4], [-1, 0], -1), [1, 1, 1], [2, 1, 0])


class StableWithTwoOutside(StableCase):
    def test_beside_one(self):
        for losses in ([[1, 0], [0, 1]], [[2, -1], [-1, 1]], [[1, 5], [5, 1]], [[1, 1], [1, 1]], [[1, 9], [-10, 1]],
                       [[3, -9], [8, 3]], [[1, 3], [3, 8]]):
            self.assertEqual(self.outside(beside_first(losses), [5, 0, 0]), [1, 2])
            self.assert_stable(beside_first(losses), [5, 0, 0])

    def test_either_alone_invades(self):
        self.assert_invaded(beside_first([[-1, 5], [5, 1]]), [1, 0, 0], [0, 1, 0])
        self.assert_invaded(beside_first([[1, 5], [5, -1]]), [1, 0, 0], [0, 0, 1])
        self.assert_as_good(beside_first([[0, 5], [5, 1]]), [1, 0, 0], [0, 1, 0])
        self.assert_as_good(beside_first([[1, 5], [5, 0]]), [1, 0, 0], [0, 0, 1])

    def test_both_together_invade(self):
        self.assert_invaded(beside_first([[1, -2], [-2, 1]]), [1, 0, 0], [0, 1, 1])
        self.assert_as_good(beside_first([[1, -1], [-1, 1]]), [1, 0, 0], [0, 1, 1])
        self.assert_as_good(beside_first([[1, 0], [-2, 1]]), [1, 0, 0], [3, 1, 1])
        self.assert_as_good(beside_first([[4, -2], [-2, 1]]), [1, 0, 0], [0, 1, 2])

    def test_only_few_mixtures_invade(self):
        self.assert_stable(beside_first([[961, -930], [-930, 901]]), [1, 0, 0])
        self.assert_as_good(beside_first([[961, -930], [-930, 900]]), [1, 0, 0], [0, 30, 31])
        self.assert_invaded(beside_first([[961, -930], [-930, 899]]), [1, 0, 0], [0, 30, 31])

    def test_beside_two(self):
        stable = (4, [-1, 4, 5, 5, 0, 2, 5, 5, 1, 0, 0, 0, 0, 2, 0, 0])
        self.assertEqual(self.outside(stable, [2, 1, 0, 0]), [2, 3])
        self.assert_stable(stable, [2, 1, 0, 0])
        together = (4, [-1, 4, 5, 5, 0, 2, 5, 5, 1, 0, 0, 20, 0, 2, 0, 0])
        self.assert_invaded(together, [2, 1, 0, 0], [0, 0, 1, 1])
        for q in ([0, 0, 1, 0], [0, 0, 0, 1], [1, 0, 1, 0], [0, 1, 0, 1]):
            self.assertTrue(words.withstands(together[1], words.shares([2, 1, 0, 0]), words.shares(q)))

    def test_the_support_need_not_come_first(self):
        stable = (4, [0, 0, 1, 0, 5, 2, 0, 5, 5, 4, -1, 5, 0, 2, 0, 0])
        self.assertEqual(self.outside(stable, [0, 1, 2, 0]), [0, 3])
        self.assert_stable(stable, [0, 1, 2, 0])


class StableWithThreeOutside(StableCase):
    def test_stable(self):
        for losses in ([[1, 0, 0], [0, 1, 0], [0, 0, 1]], [[1, 5, 5], [5, 1, 5], [5, 5, 1]],
                       [[3, -1, -1], [-1, 3, -1], [-1, -1, 3]], [[1, -1, 1], [0, 1, -1], [0, 0, 1]],
                       [[4, -3, 9], [-3, 4, -3], [9, -3, 4]]):
            self.assertEqual(self.outside(beside_first(losses), [1, 0, 0, 0]), [1, 2, 3])
            self.assert_stable(beside_first(losses), [1, 0, 0, 0])

    def test_all_three_together_are_as_good_though_no_two_are(self):
        losses = [[2, -1, -1], [-1, 2, -1], [-1, -1, 2]]
        self.assert_as_good(beside_first(losses), [1, 0, 0, 0], [0, 1, 1, 1])
        for pair in itertools.combinations(range(3), 2):
            self.assert_stable(beside_first([[losses[i][j] for j in pair] for i in pair]), [1, 0, 0])

    def test_all_three_together_invade_though_no_two_do(self):
        losses = [[4, -3, -3], [-3, 4, -3], [-3, -3, 4]]
        self.assert_invaded(beside_first(losses), [1, 0, 0, 0], [0, 1, 1, 1])
        for pair in itertools.combinations(range(3), 2):
            self.assert_stable(beside_first([[losses[i][j] for j in pair] for i in pair]), [1, 0, 0])

    def test_two_of_three_invade(self):
        for pair in itertools.combinations(range(3), 2):
            for loss, check in ((-3, self.assert_invaded), (-2, self.assert_as_good)):
                losses = [[2 if i == j else loss if (i, j) == pair or (j, i) == pair else 9 for j in range(3)]
                          for i in range(3)]
                check(beside_first(losses), [1, 0, 0, 0], [0] + [int(i in pair) for i in range(3)])

    def test_one_of_three_invades(self):
        for place in range(3):
            for loss, check in ((-1, self.assert_invaded), (0, self.assert_as_good)):
                losses = [[(loss if i == place else 2) if i == j else 9 for j in range(3)] for i in range(3)]
                check(beside_first(losses), [1, 0, 0, 0], [0] + [int(i == place) for i in range(3)])


class StableByItsWords(StableCase):
    """What no mixture of a grid shows false is stable: in so small contests the grid is fine enough."""

    def assert_by_grid(self, n, wins, ps, grid):
        calls = [(STABLE, p) for p in ps]
        for p, answered in zip(ps, ask_of((n, wins), *calls)):
            p_shares = words.shares(p)
            held = all(words.withstands(wins, p_shares, q) for q in grid if q != p_shares)
            self.assertEqual(answered, [int(held)], (n, wins, p))

    def test_all_small_contests_of_two(self):
        ps = [[1, 0], [0, 1], [1, 1], [1, 2], [2, 1], [3, 1], [1, 3]]
        grid = [words.shares([weight, 24 - weight]) for weight in range(25)]
        for wins in itertools.product(range(-1, 3), repeat=4):
            self.assert_by_grid(2, list(wins), ps, grid)

    def test_all_smallest_contests_of_three(self):
        ps = [[1, 0, 0], [0, 1, 0], [0, 0, 1], [1, 1, 0], [0, 1, 1], [1, 0, 1], [1, 1, 1]]
        grid = [words.shares([a, b, 6 - a - b]) for a in range(7) for b in range(7 - a)]
        for wins in itertools.product(range(2), repeat=9):
            self.assert_by_grid(3, list(wins), ps, grid)


class Stables(unittest.TestCase):
    def test_examples(self):
        self.assertEqual(one_of(MEETING, STABLES), [2, 1, 2])

    def test_before_a_contest_is_told(self):
        self.assertEqual(ask((STABLES,)), [[1, 1]])

    def test_one_strategy(self):
        self.assertEqual(one_of(LONE, STABLES), [1, 1])

    def test_none(self):
        for contest in (ALIKE, EVEN_CIRCLE, BAD_CIRCLE, (4, [0] * 16)):
            self.assertEqual(one_of(contest, STABLES), [0])

    def test_one(self):
        self.assertEqual(one_of(HAWK_DOVE, STABLES), [1, 3])
        self.assertEqual(one_of(GOOD_CIRCLE, STABLES), [1, 7])
        self.assertEqual(one_of(AGAINST_OWN, STABLES), [1, 15])
        self.assertEqual(one_of((2, [1, 1, 1, 0]), STABLES), [1, 1])

    def test_several_going_up(self):
        self.assertEqual(one_of(IDENTITY, STABLES), [4, 1, 2, 4, 8])
        # Two pairs that shun each other, each at rest within.
        wins = [-1, 4, -9, -9, 0, 2, -9, -9, -9, -9, -1, 4, -9, -9, 0, 2]
        self.assertEqual(one_of((4, wins), STABLES), [2, 3, 12])
        wins = [5, 0, -9, -9, 0, 1, -9, -9, -9, -9, -1, 4, -9, -9, 0, 2]
        self.assertEqual(one_of((4, wins), STABLES), [3, 1, 2, 12])

    def test_beside_singular_sets(self):
        # 0 and 1 are alike in all, so that they make sets singular; 2 is stable alone.
        contest = (3, [1, 1, 0, 1, 1, 0, 0, 0, 1])
        self.assertEqual(ask_of(contest, (EQUILIBRIA,), (STABLES,)), [[5, 1, 2, 4, 5, 6, 2, 3, 7], [1, 4]])

    def test_shares_that_weights_cannot_tell(self):
        # The shares are 1999 and 2000 of 3999.
        self.assertEqual(one_of((2, [-1000, 1000, 999, -1000]), STABLES), [1, 3])

    def test_agrees_with_equilibria_support_and_stable(self):
        contests = [HAWK_DOVE, MEETING, ALIKE, LONE, IDENTITY, AGAINST_OWN, EVEN_CIRCLE, GOOD_CIRCLE, BAD_CIRCLE,
                    hawk_dove_and([1, 0], [5, 5], 9), hawk_dove_and([2, -2], [0, 0], 0),
                    beside_first([[2, -1, -1], [-1, 2, -1], [-1, -1, 2]]),
                    beside_first([[3, -1, -1], [-1, 3, -1], [-1, -1, 3]])]
        for contest in contests:
            n = contest[0]
            stables, equilibria = ask_of(contest, (STABLES,), (EQUILIBRIA,))
            found = []
            for number, strategies in enumerate(words.sets_of(n), 1):
                answered = one_of(contest, SUPPORT, strategies)
                self.assertEqual(answered[0] == 1, number in equilibria[1:equilibria[0] + 1])
                if answered[0] == 1:
                    p = [Fraction(*answered[place:place + 2]) for place in range(1, 2 * n, 2)]
                    whole = 1
                    for share in p:
                        whole *= share.denominator
                    if one_of(contest, STABLE, [int(share * whole) for share in p]) == [1]:
                        found.append(number)
            self.assertEqual(stables, [len(found)] + found, contest)


class Bears(unittest.TestCase):
    def assert_bears(self, contest, p, q, answer):
        """Asks, and holds the answer against the document's words: p leads below x, and not just above."""
        self.assertEqual(one_of(contest, BEARS, p, q), answer, (contest, p, q))
        wins = contest[1]
        p_shares, q_shares = words.shares(p), words.shares(q)

        def lead(y):
            met = words.between(p_shares, q_shares, y)
            return words.win(wins, p_shares, met) - words.win(wins, q_shares, met)

        x = Fraction(*answer)
        tiny = Fraction(1, 10 ** 40)
        if x > 0:
            for y in (tiny, x / 3, x / 2, x - tiny):
                self.assertGreater(lead(y), 0)
        if x < 1:
            self.assertLessEqual(lead(x + tiny), 0)

    def test_examples(self):
        self.assert_bears(HAWK_DOVE, [2, 1], [1, 0], [1, 1])
        self.assert_bears(MEETING, [1, 0], [0, 1], [2, 3])

    def test_between_0_and_1(self):
        self.assert_bears(MEETING, [0, 1], [1, 0], [1, 3])
        self.assert_bears(MEETING, [1, 0], [1, 1], [1, 1])
        self.assert_bears(MEETING, [1, 0], [1, 5], [4, 5])
        self.assert_bears((2, [1000, 0, 0, 1]), [0, 1], [1, 0], [1, 1001])
        self.assert_bears((3, [4, 0, 0, 0, 5, 0, 0, 0, 6]), [1, 0, 0], [0, 1, 1], [16, 27])
        self.assert_bears(IDENTITY, [1, 0, 0, 0], [0, 1, 1, 2], [8, 11])

    def test_1(self):
        self.assert_bears((2, [2, 2, 1, 1]), [1, 0], [0, 1], [1, 1])
        # The lead is gone only against q itself.
        self.assert_bears((2, [2, 1, 1, 1]), [1, 0], [0, 1], [1, 1])
        self.assert_bears(AGAINST_OWN, [1, 1, 1, 1], [1, 0, 0, 0], [1, 1])

    def test_0(self):
        self.assert_bears((2, [1, 1, 2, 2]), [1, 0], [0, 1], [0, 1])
        # Behind against p, it doesn't help to be ahead against q.
        self.assert_bears((2, [0, 9, 1, 0]), [1, 0], [0, 1], [0, 1])
        self.assert_bears(HAWK_DOVE, [1, 0], [2, 1], [0, 1])

    def test_alike_against_p(self):
        self.assert_bears((2, [0, 1, 0, 0]), [1, 0], [0, 1], [1, 1])
        self.assert_bears((2, [0, 0, 0, 0]), [1, 0], [0, 1], [0, 1])
        self.assert_bears((2, [0, 0, 0, 1]), [1, 0], [0, 1], [0, 1])
        self.assert_bears(MEETING, [1, 2], [1, 0], [0, 1])
        self.assert_bears(EVEN_CIRCLE, [1, 1, 1], [1, 2, 3], [0, 1])
        self.assert_bears(GOOD_CIRCLE, [1, 1, 1], [1, 2, 3], [1, 1])
        self.assert_bears(BAD_CIRCLE, [1, 1, 1], [1, 2, 3], [0, 1])

    def test_mixtures_of_unlike_sums(self):
        self.assert_bears((2, [5, -3, 1, 2]), [3, 1], [10, 90], [35, 117])
        self.assert_bears((2, [5, -3, 1, 2]), [300, 100], [1, 9], [35, 117])

    def test_the_same_mixture(self):
        for p, q in (([2, 1], [2, 1]), ([2, 1], [4, 2]), ([1000, 500], [2, 1]), ([1, 0], [1000, 0]), ([0, 3], [0, 7])):
            self.assertEqual(one_of(HAWK_DOVE, BEARS, p, q), [-6])
            self.assertEqual(one_of(HAWK_DOVE, BEARS, q, p), [-6])
        self.assertEqual(one_of(IDENTITY, BEARS, [1, 2, 0, 4], [250, 500, 0, 1000]), [-6])

    def test_one_strategy_has_one_mixture(self):
        self.assertEqual(ask((BEARS, [1], [1]), (BEARS, [1], [1000])), [[-6], [-6]])

    def test_nearly_the_same_mixture(self):
        self.assert_bears(HAWK_DOVE, [1000, 500], [999, 500], [1, 1])
        self.assert_bears(MEETING, [1000, 999], [999, 1000], [1, 1])
        self.assert_bears(MEETING, [999, 1000], [1000, 999], [0, 1])
        self.assert_bears(IDENTITY, [1, 2, 0, 4], [250, 500, 1, 1000], [1, 1])


if __name__ == "__main__":
    unittest.main()
