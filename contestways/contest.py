"""The calls on one contest, read off one list of whole numbers and answered in another.

A contest is kept as the rows of its wins: wins[i][j] is what strategy i wins against strategy j.
A mixture is kept as whole weights, one for each strategy; a share is a weight divided by their sum.
"""

MOST_STRATEGIES = 4
MOST_WIN = 1000
MOST_WEIGHT = 1000

OUT_OF_RANGE = -1
SINGULAR = -5


class UnknownCall(ValueError):
    """A number that stands for no call: where the next call begins can't be told."""


class Contest:
    """The contest that the calls of one list ask and change."""

    def __init__(self):
        self.wins = [[0]]


class Reader:
    """Takes numbers and rows one behind another from a list, which stays as it is."""

    def __init__(self, calls):
        self.calls = calls
        self.at = 0

    def is_done(self):
        return self.at >= len(self.calls)

    def take_number(self):
        taken = self.calls[self.at]
        self.at = self.at + 1
        return taken

    def take_row(self):
        size = self.take_number()
        start = self.at
        self.at = start + size
        return self.calls[start:self.at]


def greatest_divisor(a, b):
    while b != 0:
        rest = a % b
        a = b
        b = rest
    return a


def fraction(numerator, denominator):
    """The two numbers of a fraction in lowest terms. The denominator is above 0."""
    divisor = greatest_divisor(abs(numerator), denominator)
    return [numerator // divisor, denominator // divisor]


def are_within(numbers, least, most):
    return all([least <= number <= most for number in numbers])


def are_weights(weights, n):
    return len(weights) == n and are_within(weights, 0, MOST_WEIGHT) and sum(weights) > 0


def are_strategies(strategies, n):
    """Whether these are one strategy or more, going up. (So there are no more than n.)"""
    if len(strategies) == 0 or not are_within(strategies, 0, n - 1):
        return False
    return all([strategies[k - 1] < strategies[k] for k in range(1, len(strategies))])


def are_wins(wins, n):
    return 1 <= n <= MOST_STRATEGIES and len(wins) == n * n and are_within(wins, -MOST_WIN, MOST_WIN)


def weighted_sum(numbers, weights):
    return sum([number * weight for number, weight in zip(numbers, weights)])


def won_against(wins, weights):
    """What each strategy wins against a mixture, times the sum of the mixture's weights."""
    return [weighted_sum(row, weights) for row in wins]


def cleared(row, pivot, column, before):
    """The row less so much of the pivot's row that it has 0 in the column.

    Division by the pivot before this one leaves no rest (Bareiss), and keeps the numbers short.
    """
    return [(pivot[column] * mine - row[column] * its) // before for mine, its in zip(row, pivot)]


def solve(equations):
    """Solve as many equations as unknowns; in each, the number that is asked for stands last.

    Gives the numerators of the unknowns over one denominator, which is above 0;
    None if there isn't just one solution.
    """
    rows = list(equations)
    before = 1
    for column in range(len(equations)):
        usable = [k for k in range(column, len(rows)) if rows[k][column] != 0]
        if len(usable) == 0:
            return None
        pivot = rows.pop(usable[0])
        rows = [cleared(row, pivot, column, before) for row in rows]
        rows.insert(column, pivot)
        before = pivot[column]
    # The last pivot is now the denominator of every row; the fractions don't change if both signs do.
    sign = 1 if before > 0 else -1
    return [sign * row[-1] for row in rows]


def level_equations(wins, strategies):
    """The equations of a set: the unknowns are the shares of its strategies, then the value."""
    equations = [[wins[i][j] for j in strategies] + [-1, 0] for i in strategies]
    equations.append([1 for j in strategies] + [0, 1])
    return equations


def level_weights(wins, strategies):
    """Weights, perhaps below 0, against which all strategies of the set win alike; None if it is singular.

    The shares sum to 1, so the sum of these weights is the shares' denominator, above 0.
    """
    solution = solve(level_equations(wins, strategies))
    if solution is None:
        return None
    weights = [0 for row in wins]
    for strategy, weight in zip(strategies, solution):
        weights[strategy] = weight
    return weights


def is_at_rest(wins, strategies, weights):
    """Whether the level weights of a set tell a mixture of just this support, at rest."""
    won = won_against(wins, weights)
    return min([weights[i] for i in strategies]) > 0 and won[strategies[0]] == max(won)


def all_sets(n):
    """All sets of n strategies, each at the place of its number."""
    sets = [[]]
    for strategy in range(n):
        sets = sets + [smaller + [strategy] for smaller in sets]
    return sets


def beats(wins, there, i, j):
    return all([wins[i][k] > wins[j][k] for k in there])


def unbeaten(wins, there):
    return [j for j in there if not any([beats(wins, there, i, j) for i in there])]


def answer_contest(contest, n, wins):
    if not are_wins(wins, n):
        return [OUT_OF_RANGE]
    contest.wins = [wins[i * n:i * n + n] for i in range(n)]
    return [0]


def answer_told(wins):
    answer = [len(wins)]
    for row in wins:
        answer.extend(row)
    return answer


def answer_value(wins, p, q):
    if not are_weights(p, len(wins)) or not are_weights(q, len(wins)):
        return [OUT_OF_RANGE]
    return [0] + fraction(weighted_sum(won_against(wins, q), p), sum(p) * sum(q))


def answer_replies(wins, q):
    if not are_weights(q, len(wins)):
        return [OUT_OF_RANGE]
    won = won_against(wins, q)
    most = max(won)
    best = [i for i, number in enumerate(won) if number == most]
    return [0] + fraction(most, sum(q)) + [len(best)] + best


def answer_survivors(wins):
    there = list(range(len(wins)))
    left = unbeaten(wins, there)
    while len(left) < len(there):
        there = left
        left = unbeaten(wins, there)
    return [len(left)] + left


def answer_support(wins, strategies):
    if not are_strategies(strategies, len(wins)):
        return [OUT_OF_RANGE]
    weights = level_weights(wins, strategies)
    if weights is None:
        return [SINGULAR]
    if not is_at_rest(wins, strategies, weights):
        return [0]
    answer = [1]
    for weight in weights:
        answer.extend(fraction(weight, sum(weights)))
    # At rest, the mixture wins what its best replies win.
    return answer + fraction(max(won_against(wins, weights)), sum(weights))


def answer_equilibria(wins):
    resting = []
    singular = []
    for number, strategies in enumerate(all_sets(len(wins))):
        if number > 0:
            weights = level_weights(wins, strategies)
            if weights is None:
                singular.append(number)
            elif is_at_rest(wins, strategies, weights):
                resting.append(number)
    return [len(resting)] + resting + [len(singular)] + singular


def answer_next(contest, reader):
    """Take the next call from the reader and answer it."""
    call = reader.take_number()
    if call == 0:
        n = reader.take_number()
        return answer_contest(contest, n, reader.take_row())
    if call == 1:
        return answer_told(contest.wins)
    if call == 2:
        p = reader.take_row()
        return answer_value(contest.wins, p, reader.take_row())
    if call == 3:
        return answer_replies(contest.wins, reader.take_row())
    if call == 4:
        return answer_survivors(contest.wins)
    if call == 5:
        return answer_support(contest.wins, reader.take_row())
    if call == 6:
        return answer_equilibria(contest.wins)
    raise UnknownCall(f"{call} is not the number of a call")


def answers(calls):
    """Answer the calls of one list on a new contest: for each, how many numbers are answered, then these."""
    contest = Contest()
    reader = Reader(calls)
    told = []
    while not reader.is_done():
        answer = answer_next(contest, reader)
        told.append(len(answer))
        told.extend(answer)
    return told
