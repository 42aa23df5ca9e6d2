"""Receivers, and wrong things, that several tests share."""

from fractions import Fraction

from beamframes.ratios import Ratio
from tests.told import ratio, receiver_of, told_limit, told_needs

LITTLE = Fraction(1, 10 ** 30)
SMALL = ("pairs", (), (1, 1), (1, 3), 1, 1)
ONE_TABLE = receiver_of((SMALL, Fraction(1, 4)))
# Of these receivers nothing can be taken for another at the tolerance 0.
CLEAR_RECEIVERS = (
    ONE_TABLE,
    receiver_of((("pairs", (), (1, 1), (1, 3), 1, 3), 0)),
    receiver_of((("halves", 5, 1), Fraction(1, 5))),
    receiver_of((("halves", 5, 3), Fraction(1, 7))),
    receiver_of((("halves", 99999, 2), Fraction(2, 5))),
    receiver_of((("pairs", (8, 4), (1, 2), (3, 1), 1, 2), Fraction(1, 4)), (("halves", 3, 3), Fraction(1, 9))),
    receiver_of((("halves", 3, 2), Fraction(1, 9)), (("pairs", (), (3, 7), (6, 3), 3, 1), Fraction(1, 3))),
    receiver_of((("halves", 5, 3), Fraction(1, 10)), (("halves", 8, 3), Fraction(1, 6))),
    receiver_of(
        (("pairs", (8, 4), (1, 1), (1, 3), 1, 2), Fraction(1, 4)),
        (("pairs", (16, 8), (2, 2), (2, 6), 2, 2), Fraction(1, 5)),
        (("pairs", (8, 4, 8, 4), (9, 9), (9, 7), 5, 1), Fraction(1, 9)),
    ),
    receiver_of(
        (SMALL, Fraction(1, 4)), (("halves", 9, 2), Fraction(1, 8)), (("pairs", (2, 2), (7, 5), (5, 7), 3, 2), 0),
        (("halves", 40, 1), Fraction(1, 3)),
    ),
)
# Of these something can be taken for another at each tolerance.
DIM_RECEIVERS = (
    receiver_of((SMALL, Fraction(1, 4)), (SMALL, Fraction(1, 4))),
    receiver_of((("halves", 3, 2), Fraction(1, 2))),
    receiver_of((("pairs", (3, 3), (3, 4), (4, 3), 3, 1), Fraction(99, 100)), (("halves", 3, 2), 0)),
)
RECEIVERS = CLEAR_RECEIVERS + DIM_RECEIVERS
NO_RATIOS = (None, True, False, 0, 1, -1, "1", "1/4", 0.25, Fraction(1, 4), (1, 4), [Ratio(1)], (Ratio(1),), object())
NO_RECEIVERS = (
    (None, None), (None, ()), (None, []), (None, list(ONE_TABLE)), (None, ONE_TABLE * 5), (0, (None,)),
    (0, ONE_TABLE[0]), (0, ((SMALL, Ratio(1)),)), (0, ((SMALL, Fraction(1, 4)),)),
    (1, (ONE_TABLE[0], [SMALL, Ratio(0)])), (1, (ONE_TABLE[0], (list(SMALL), Ratio(0)), None)),
)


def just_below_limit(receiver):
    """A tolerance at which nothing can be taken for another, of a receiver that has one."""
    return ratio(told_limit(receiver) * (1 - LITTLE))


def asked_tolerances(receiver):
    """The limit, a little less, a little more, and the needs of some pairs of words, among others."""
    needs = sorted(set(told_needs(receiver).values()))
    limit = needs[0]
    asked = [0, limit, limit + LITTLE, Fraction(1, 3), 1, 5, needs[-1], needs[len(needs) // 2], 10 ** 9]
    if limit:
        asked += [limit * (1 - LITTLE), limit / 2]
    return [ratio(number) for number in asked]


def some_receiver(random):
    """A receiver of small tables, with durations that are often alike."""
    return receiver_of(*[some_pair(random) for _ in range(random.randint(1, 3))])


def some_pair(random):
    tolerance = Fraction(random.randint(0, 9), 10)
    if random.random() < 0.4:
        return ("halves", random.randint(1, 4), random.randint(1, 3)), tolerance
    header = tuple(random.randint(1, 4) for _ in range(random.choice((0, 0, 2, 4))))
    zero = (random.randint(1, 4), random.randint(1, 4))
    one = random.choice(((random.randint(5, 9), zero[1]), (zero[0], random.randint(5, 9))))
    zero, one = random.choice(((zero, one), (one, zero)))
    return ("pairs", header, zero, one, random.randint(1, 4), random.randint(1, 3)), tolerance
