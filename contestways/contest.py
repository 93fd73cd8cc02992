"""The calls on one contest, read off one list of whole numbers and answered in another.

A contest is kept as the rows of its wins: wins[i][j] is what strategy i wins against strategy j.
A mixture is kept as whole weights, one for each strategy; a share is a weight divided by their sum.
"""

MOST_STRATEGIES = 4
MOST_WIN = 1000
MOST_WEIGHT = 1000
MOST_TIMES = 5
MOST_SHIFT = 1000
MOST_FACTOR = 100
MOST_GROWN_WIN = 1000000

OUT_OF_RANGE = -1
SINGULAR = -5
SAME_MIXTURE = -6
WIN_BELOW_ZERO = -7
NOTHING_WON = -8
WIN_TOO_FAR = -9


class Contest:
    """The contest that the calls of one list ask and change."""

    def __init__(self):
        self.wins = [[0]]


class Reader:
    """Takes numbers and rows one behind another from a list, which stays as it is."""

    def __init__(self, calls):
        self.calls = calls
        self.at = 0

    def is_done(self):
        return self.at >= len(self.calls)

    def take_number(self):
        self.at = self.at + 1
        return self.calls[self.at - 1]

    def take_row(self):
        size = self.take_number()
        self.at = self.at + size
        return self.calls[self.at - size:self.at]


def greatest_divisor(a, b):
    while b != 0:
        rest = a % b
        a = b
        b = rest
    return a


def fraction(numerator, denominator):
    """The two numbers of a fraction in lowest terms. The denominator is above 0."""
    divisor = greatest_divisor(abs(numerator), denominator)
    return [numerator // divisor, denominator // divisor]


def mixture(weights):
    """The fractions of a mixture's shares, one behind another."""
    told = []
    for weight in weights:
        told.extend(fraction(weight, sum(weights)))
    return told


def are_within(numbers, least, most):
    return all([least <= number <= most for number in numbers])


def are_weights(weights, n):
    return len(weights) == n and are_within(weights, 0, MOST_WEIGHT) and sum(weights) > 0


def are_strategies(strategies, n):
    """Whether these are one strategy or more, going up. (So there are no more than n.)"""
    if len(strategies) == 0 or not are_within(strategies, 0, n - 1):
        return False
    return all([strategies[k - 1] < strategies[k] for k in range(1, len(strategies))])


def weighted_sum(numbers, weights):
    return sum([number * weight for number, weight in zip(numbers, weights)])


def won_against(wins, weights):
    """What each strategy wins against a mixture, times the sum of the mixture's weights."""
    return [weighted_sum(row, weights) for row in wins]


def best_replies(wins, weights):
    won = won_against(wins, weights)
    return [i for i, number in enumerate(won) if number == max(won)]


def cleared(row, pivot, column, before):
    """The row less so much of the pivot's row that it has 0 in the column.

    Division by the pivot before this one leaves no rest (Bareiss), and keeps the numbers short.
    """
    return [(pivot[column] * mine - row[column] * its) // before for mine, its in zip(row, pivot)]


def solve(equations):
    """Solve as many equations as unknowns; in each, the number that is asked for stands last.

    Gives the numerators of the unknowns over one denominator, which is above 0;
    None if there isn't just one solution.
    """
    rows = list(equations)
    before = 1
    for column in range(len(equations)):
        usable = [k for k in range(column, len(rows)) if rows[k][column] != 0]
        if len(usable) == 0:
            return None
        pivot = rows.pop(usable[0])
        rows = [cleared(row, pivot, column, before) for row in rows]
        rows.insert(column, pivot)
        before = pivot[column]
    # The last pivot is now the denominator of every row; the fractions don't change if both signs do.
    sign = 1 if before > 0 else -1
    return [sign * row[-1] for row in rows]


def level_equations(wins, strategies):
    """The equations of a set: the unknowns are the shares of its strategies, then the value."""
    equations = [[wins[i][j] for j in strategies] + [-1, 0] for i in strategies]
    equations.append([1 for j in strategies] + [0, 1])
    return equations


def level_weights(wins, strategies):
    """Weights, perhaps below 0, against which all strategies of the set win alike; None if it is singular.

    The shares sum to 1, so the sum of these weights is the shares' denominator, above 0. No shares of the
    empty set sum to 1: its equations have no solution, so there is None too.
    """
    solution = solve(level_equations(wins, strategies))
    if solution is None:
        return None
    weights = [0 for row in wins]
    for strategy, weight in zip(strategies, solution):
        weights[strategy] = weight
    return weights


def is_at_rest(wins, strategies, weights):
    """Whether weights, 0 outside of a set, tell a mixture of just this support, at rest."""
    best = best_replies(wins, weights)
    return all([weights[i] > 0 and i in best for i in strategies])


def all_sets(n):
    """All sets of n strategies, each at the place of its number."""
    sets = [[]]
    for strategy in range(n):
        sets = sets + [smaller + [strategy] for smaller in sets]
    return sets


def resting_sets(wins):
    """The numbers, going up, of the sets that are supports at rest and not singular, with the weights there."""
    resting = {}
    for number, strategies in enumerate(all_sets(len(wins))):
        weights = level_weights(wins, strategies)
        if weights is not None and is_at_rest(wins, strategies, weights):
            resting[number] = weights
    return resting


def loss_form(wins, base, others):
    """What moves of shares from base to others lose against one another, both ways round added.

    So the form is symmetric, and at a move it is twice what the move loses against itself.
    """
    both = [[wins[i][j] + wins[j][i] for j in range(len(wins))] for i in range(len(wins))]
    return [[both[i][base] + both[base][j] - both[i][j] - both[base][base] for j in others] for i in others]


def is_above_zero(form):
    """Whether a symmetric form is above 0 at all weights from 0 on that aren't all 0.

    Among the shares where it is least, take some with the fewest in them. They are level, and the set
    isn't singular: else one could go on along its solutions, just as low, till a share is 0.
    """
    for strategies in all_sets(len(form)):
        weights = level_weights(form, strategies)
        if weights is not None and min(weights) >= 0 and weighted_sum(won_against(form, weights), weights) <= 0:
            return False
    return True


def is_stable(wins, p):
    """Whether the mixture of the weights p is stable.

    At rest, only mixtures q of best replies win as much against p as p does. There, p wins more against q
    than q does just if the move of shares from p to q loses against itself. A move may take shares from
    the support alone, and as the size of a move doesn't matter, it may take any number there.
    """
    inside = [i for i, weight in enumerate(p) if weight > 0]
    if not is_at_rest(wins, inside, p):
        return False
    outside = [i for i in best_replies(wins, p) if p[i] == 0]
    form = loss_form(wins, inside[0], inside[1:] + outside)
    for strategy in inside[1:]:
        if form[0][0] <= 0:
            return False
        # What is left, times a number above 0, is the form where the first entry makes it least.
        form = [cleared(row, form[0], 0, 1)[1:] for row in form[1:]]
    return is_above_zero(form)


def lead(p, q, won):
    """How much more p wins than q where each strategy wins what is told, times the sums of both weights."""
    return weighted_sum(won, p) * sum(q) - weighted_sum(won, q) * sum(p)


def beats(wins, there, i, j):
    return all([wins[i][k] > wins[j][k] for k in there])


def unbeaten(wins, there):
    return [j for j in there if not any([beats(wins, there, i, j) for i in there])]


def answer_contest(contest, n, wins):
    if not 1 <= n <= MOST_STRATEGIES or len(wins) != n * n or not are_within(wins, -MOST_WIN, MOST_WIN):
        return [OUT_OF_RANGE]
    contest.wins = [wins[i * n:i * n + n] for i in range(n)]
    return [0]


def answer_told(wins):
    answer = [len(wins)]
    for row in wins:
        answer.extend(row)
    return answer


def answer_value(wins, p, q):
    if not are_weights(p, len(wins)) or not are_weights(q, len(wins)):
        return [OUT_OF_RANGE]
    return [0] + fraction(weighted_sum(won_against(wins, q), p), sum(p) * sum(q))


def answer_replies(wins, q):
    if not are_weights(q, len(wins)):
        return [OUT_OF_RANGE]
    best = best_replies(wins, q)
    return [0] + fraction(max(won_against(wins, q)), sum(q)) + [len(best)] + best


def answer_survivors(wins):
    there = list(range(len(wins)))
    left = unbeaten(wins, there)
    while len(left) < len(there):
        there = left
        left = unbeaten(wins, there)
    return [len(left)] + left


def answer_support(wins, strategies):
    if not are_strategies(strategies, len(wins)):
        return [OUT_OF_RANGE]
    weights = level_weights(wins, strategies)
    if weights is None:
        return [SINGULAR]
    if not is_at_rest(wins, strategies, weights):
        return [0]
    # At rest, the mixture wins what its best replies win.
    return [1] + mixture(weights) + fraction(max(won_against(wins, weights)), sum(weights))


def answer_equilibria(wins):
    sets = all_sets(len(wins))
    resting = list(resting_sets(wins))
    singular = [number for number in range(1, len(sets)) if level_weights(wins, sets[number]) is None]
    return [len(resting)] + resting + [len(singular)] + singular


def answer_stable(wins, p):
    if not are_weights(p, len(wins)):
        return [OUT_OF_RANGE]
    return [1 if is_stable(wins, p) else 0]


def answer_stables(wins):
    stable = [number for number, weights in resting_sets(wins).items() if is_stable(wins, weights)]
    return [len(stable)] + stable


def answer_bears(wins, p, q):
    if not are_weights(p, len(wins)) or not are_weights(q, len(wins)):
        return [OUT_OF_RANGE]
    if mixture(p) == mixture(q):
        return [SAME_MIXTURE]
    # The lead goes evenly from what it is against p to what it is against q, both over one denominator.
    at_p = lead(p, q, won_against(wins, p)) * sum(q)
    at_q = lead(p, q, won_against(wins, q)) * sum(p)
    if at_p < 0 or (at_p == 0 and at_q <= 0):
        return [0, 1]
    if at_q >= 0:
        return [1, 1]
    return fraction(at_p, at_p - at_q)


def answer_grow(wins, t, p):
    if not 0 <= t <= MOST_TIMES or not are_weights(p, len(wins)):
        return [OUT_OF_RANGE]
    if min([min(row) for row in wins]) < 0:
        return [WIN_BELOW_ZERO]
    weights = p
    for turn in range(t):
        weights = [weight * won for weight, won in zip(weights, won_against(wins, weights))]
        if sum(weights) == 0:
            return [NOTHING_WON]
    return [0] + mixture(weights)


def take_grown(contest, wins):
    """Give the contest these wins, unless one of them has grown too far."""
    if not all([are_within(row, -MOST_GROWN_WIN, MOST_GROWN_WIN) for row in wins]):
        return [WIN_TOO_FAR]
    contest.wins = wins
    return [0]


def answer_shift(contest, b):
    if len(b) != len(contest.wins) or not are_within(b, -MOST_SHIFT, MOST_SHIFT):
        return [OUT_OF_RANGE]
    return take_grown(contest, [[win + more for win, more in zip(row, b)] for row in contest.wins])


def answer_scale(contest, k):
    if not 1 <= k <= MOST_FACTOR:
        return [OUT_OF_RANGE]
    return take_grown(contest, [[win * k for win in row] for row in contest.wins])


def answer_sub(contest, strategies):
    wins = contest.wins
    if not are_strategies(strategies, len(wins)):
        return [OUT_OF_RANGE]
    contest.wins = [[wins[i][j] for j in strategies] for i in strategies]
    return [len(strategies)]


def answer_asking(wins, call, reader):
    """Answer one of the calls that leave the contest as it is."""
    if call == 1:
        return answer_told(wins)
    if call == 2:
        return answer_value(wins, reader.take_row(), reader.take_row())
    if call == 3:
        return answer_replies(wins, reader.take_row())
    if call == 4:
        return answer_survivors(wins)
    if call == 5:
        return answer_support(wins, reader.take_row())
    if call == 6:
        return answer_equilibria(wins)
    if call == 7:
        return answer_stable(wins, reader.take_row())
    if call == 8:
        return answer_stables(wins)
    if call == 9:
        return answer_bears(wins, reader.take_row(), reader.take_row())
    return answer_grow(wins, reader.take_number(), reader.take_row())


def answer_next(contest, reader):
    """Take the next call from the reader and answer it. (Its number is always one of 0 to 13.)"""
    call = reader.take_number()
    if call == 0:
        return answer_contest(contest, reader.take_number(), reader.take_row())
    if call == 11:
        return answer_shift(contest, reader.take_row())
    if call == 12:
        return answer_scale(contest, reader.take_number())
    if call == 13:
        return answer_sub(contest, reader.take_row())
    return answer_asking(contest.wins, call, reader)


def answers(calls):
    """Answer the calls of one list on a new contest: for each, how many numbers are answered, then these."""
    contest = Contest()
    reader = Reader(calls)
    told = []
    while not reader.is_done():
        answer = answer_next(contest, reader)
        told.append(len(answer))
        told.extend(answer)
    return told
