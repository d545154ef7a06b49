"""What the tests of points 11 to 30 need: good arguments, and those that are not allowed."""

from fractions import Fraction
from math import gcd
from random import Random

from groupdeeds import errors
from tests.helpers import HUGE, SIZES, STRANGE, bad_groupings, bads_of, plain_groupings, plain_steps

PAIR_NUMBERS = {1: 0, 2: 1, 3: 3, 4: 6, 5: 10, 6: 15}

# Weights with unlike bottoms, those with several primes among them.
UNLIKE = {
    1: ((1, 1),),
    2: ((1, 2), (1, 3), (1, 6)),
    3: ((1, 26), (6, 13), (3, 34), (5, 34), (1, 17), (7, 34)),
    4: ((1, 57), (6, 19), (2, 51), (1, 60), (5, 17), (1, 52), (1, 60), (3, 13), (1, 30), (1, 60)),
}


def as_fraction(case, ratio):
    """Return a ratio as a fraction; hold that it is a pair in lowest terms with a positive bottom."""
    case.assertEqual([type(ratio), len(ratio), type(ratio[0]), type(ratio[1])], [tuple, 2, int, int])
    case.assertGreater(ratio[1], 0)
    case.assertEqual(gcd(ratio[0], ratio[1]), 1)
    return Fraction(ratio[0], ratio[1])


def as_ratio(fraction):
    return (Fraction(fraction).numerator, Fraction(fraction).denominator)


def parted(bottom, many, seed):
    """Return weights: so many parts of a bottom, by chance but always the same ones for a seed."""
    cuts = [0] + sorted(Random(seed).sample(range(1, bottom), many - 1)) + [bottom]
    return tuple(as_ratio(Fraction(cuts[at + 1] - cuts[at], bottom)) for at in range(many))


def some_weights(size):
    """Return several weights of a size."""
    many = len(plain_steps(size))
    found = [parted(bottom, many, seed) for seed, bottom in enumerate((60, 60, 59, 48, many))]
    return found + ([UNLIKE[size]] if size in UNLIKE else [])


def some_likings(size, seed):
    """Return likings of a size: great and small ones, many alike, always the same ones for a seed."""
    mixed = Random(seed)
    kind = [range(-100, 101), (-1, 0, 1), (-100, 100), range(0, 5), range(-5, 1), (0,), (-2, 1)][seed % 7]
    return tuple(mixed.choice(kind) for _ in range(PAIR_NUMBERS[size]))


def bad_weights(size):
    """Return values that are no weights of a size, those of other sizes too."""
    good = UNLIKE.get(size, parted(60, len(plain_steps(size)), 5))
    many = len(good)
    values = STRANGE + (0, 1, (), good + ((1, 60),), good[1:], list(good), (good,), good + (None,), (None,) * many)
    values = values + (((1, many + 1),) * many, ((1, 1),) * (many + 1), ((0, 1),) * many, "1" * many, (1,) * many)
    for wrong in ((0, 1), (-1, 2), (0, 5), (True, 1), (1, True), (1, -2), (-1, -2), (1, 0), (0, 0), (2, 4), [1, 2], 1,
                  (1,), (1, 2, 3), (1, 61), (HUGE, 1), (1, HUGE), None, "12", ("1", 2), (1, "2"), (None, 2), (1, None),
                  ((1, 2), 3), (1, (2,)), (), {}, True, (60, 60), (7, 6)):
        values = values + (good[:-1] + (wrong,), (wrong,) + good[1:])
    if many > 1:
        # The sum is 1, but not all are ratios from above 0 with a bottom of at most 60.
        values = values + (((0, 1), as_ratio(Fraction(*good[0]) + Fraction(*good[1]))) + good[2:],)
        values = values + (((-1, 6), as_ratio(Fraction(*good[0]) + Fraction(*good[1]) + Fraction(1, 6))) + good[2:],)
        values = values + (((2, 2 * many),) + ((1, many),) * (many - 1), parted(61, many, 3), parted(67, many, 2)[::-1])
        least = Fraction(1, 60) / 2
        values = values + (((1, many),) * (many - 2) + (as_ratio(Fraction(1, many) - least),
                                                        as_ratio(Fraction(1, many) + least)),)
    others = [some_weights(other)[0] for other in SIZES if other != size]
    return bads_of(errors.BadWeights, values + tuple(others))


def bad_people(size):
    return bads_of(errors.BadPerson, STRANGE + (size, 6, (0,), [1], ((0,),), (0, 1)))


def bad_sights(size):
    """Return values that are no sights of a size: no such tuples, and bad sights in several places."""
    known = plain_groupings(size)
    good = (known[0], known[-1])
    found = bads_of(errors.BadSights, STRANGE + (0, (), [good], (good,) * 9, (None,) * 9, {0: good}), index=None)
    wrongs = [None, 0, True, "ab", (), (known[0],), good + (known[0],), list(good), [known[0], known[0]], ((), ()), {}]
    for bad in bad_groupings(size):
        wrongs.extend([(bad[2], known[0]), (known[0], bad[2])])
    for wrong in wrongs:
        for at in (0, 1, 7):
            sights = (good,) * at + (wrong,) + (good,) * (7 - at)
            found = found + bads_of(errors.BadSights, (sights, sights[:at + 1], sights[:at + 1] + (None,) * (7 - at)),
                                    index=at)
    return found


def wrong_pairs(size):
    """Return tuples that are no ascending tuples of pairs of people of a size, the lesser one first in each."""
    good = tuple(step for step in plain_steps(size) if len(step) == 2)
    pairs = ((0,), ((0,),), ((0, size),), ((1, 0),), ((0, 0),), ((-1, 0),), ((0, True),), ((False, 1),), ([0, 1],),
             ((0, 1, 2),), (("0", "1"),), (None,), ((),), ((0, HUGE),), (0, 1), good + (None,), good + ((0, size),),
             good + ((0, 1),), good + ((0,),), ("01",), ({0: 1},), ((size, size + 1),), (((0,), (1,)),))
    if size > 1:
        pairs = pairs + (((0, 1), (0, 1)),)
    if size > 2:
        pairs = pairs + (((0, 2), (0, 1)), ((1, 2), (0, 2)), good[::-1])
    return pairs


def bad_rules(size):
    """Return values that are no rules of a size: no triples, and bad parts in each place."""
    good = ((0,), tuple(step for step in plain_steps(size) if len(step) == 2), 6)
    found = bads_of(errors.BadRule, STRANGE + (0, (), good[:2], good + (1,), list(good), ((0,),)), index=None)
    found = found + bads_of(errors.BadRule, ({0: (), 1: (), 2: 1}, (1,), "012"[:2]), index=None)
    sides = (None, 0, True, "0", [0], [], {}, (size,), (-1,), (True,), (False,), (0, 0), (None,), ("0",), ((0,),),
             (HUGE,), tuple(range(size + 1)), tuple(range(size))[::-1] + (0,), ([0],), (0, None))
    pairs = (None, 0, True, "01", [(0, 1)], [], {}) + wrong_pairs(size)
    if size > 1:
        sides = sides + ((1, 0),)
    for wrong in sides:
        found = found + bads_of(errors.BadRule, ((wrong,) + good[1:], (wrong, None, 0)), index=0)
    for wrong in pairs:
        found = found + bads_of(errors.BadRule, ((good[0], wrong, 6), ((), wrong, 0), ((), wrong, None)), index=1)
    for wrong in STRANGE + (0, 7, (1,), ((0,),)):
        found = found + bads_of(errors.BadRule, (good[:2] + (wrong,), ((), (), wrong)), index=2)
    return found


def bad_numbers_of_likings():
    """Return values that are no likings of any size."""
    values = STRANGE + (0, 1, [], [0], (None,), ("1",), ((1,),), (True,), (False,), (101,), (-101,), (HUGE,), (-HUGE,),
                        (0, 0, 101), (-101, 0, 0), (0, True, 0), (0, None, 0), [0, 0, 0], (0,) * 5 + (101,), "000",
                        ([0],), {0: 1, 1: 2, 2: 3}, (0,) * 14 + (-101,), (0,) * 9 + (False,), (0,) * 16, (0,) * 21)
    return bads_of(errors.BadLikings, values + tuple((0,) * many for many in (2, 4, 5, 7, 8, 9, 11, 12, 13, 14)))


def bad_likings(size):
    """Return values that are no likings, and likings of other sizes than this one."""
    others = [(0,) * PAIR_NUMBERS[other] for other in SIZES if other != size]
    others = others + [(1,) * PAIR_NUMBERS[other] for other in SIZES if other != size]
    return bad_numbers_of_likings() + bads_of(errors.BadLikings, others)


def bad_orders(size):
    """Return values that are no new names of a size, those of other sizes too."""
    good = tuple(range(size))
    values = STRANGE + (0, 1, (), list(good), good + (size,), good + (0,), good[1:], good[1:] + (size,), (good,))
    values = values + (good[:-1] + (True,), (False,) + good[1:], good[:-1] + (None,), good[:-1] + ("0",), "012"[:size])
    values = values + (good[1:] + (-1,), good[:-1] + (HUGE,), good[:-1] + ((0,),), {one: one for one in good}, (None,))
    values = values + tuple(tuple(range(other)) for other in range(8) if other != size)
    if size > 1:
        values = values + ((0,) * size, good[:-1] + good[:1], good[1:] + good[-1:], (False, True) + good[2:])
    return bads_of(errors.BadOrder, values)


def bad_ties(before, behind):
    """Return values that are no ties of lots of two groupings."""
    firsts, seconds = len(before), len(behind)
    values = STRANGE + (0, 1, [(0, 0)], (0,), (0, 0), ([0, 0],), ((0,),), ((0, 0, 0),), (None,), ((),), ("00",), ({},))
    values = values + (((firsts, 0),), ((0, seconds),), ((-1, 0),), ((0, -1),), ((True, 0),), ((0, False),),
                       ((False, 0),), ((None, 0),), ((0, None),), (("0", 0),), ((0, "0"),), (((0,), 0),), ((0, HUGE),),
                       ((HUGE, 0),), ((0, 0), (0, 0)), ((0, 0), None), ((0, 0), (firsts, seconds)), ((6, 6),))
    if firsts > 1:
        values = values + (((0, 0), (1, 0)), ((1, 0), (0, 0)))
    if seconds > 1:
        values = values + (((0, 0), (0, 1)), ((0, 1), (0, 0)))
    if firsts > 1 and seconds > 1:
        values = values + (((1, 1), (0, 0)), ((1, 0), (0, 1)), ((0, 0), (1, 1), (1, 1)), ((0, 0), (1, seconds)))
    return bads_of(errors.BadTies, values)


def bad_many(error, size, most):
    """Return values that are no tuples of 1 to so many groupings of a size: no such tuples, and bad ones in them."""
    good = plain_groupings(size)[-1]
    values = STRANGE + (0, 1, (), [good], [good] * 2, (good,) * (most + 1), (None,) * (most + 1), {0: good}, "12")
    found = bads_of(error, values, index=None)
    for bad in bad_groupings(size):
        for at in (0, 1, most - 1):
            some = (good,) * at + (bad[2],) + (good,) * (most - 1 - at)
            found = found + bads_of(error, (some, some[:at + 1], some[:at + 1] + (None,) * (most - 1 - at)), index=at)
    return found


def no_texts():
    return bads_of(errors.NotText, [value for value in STRANGE if not isinstance(value, str)] + [
        0, 1, (), ("0",), ["0"], {"0": "0"}, (("0",),), ((0,),), ((0, 1),)])


def bad_told(size):
    """Return values that are no told pairs of a size: no pairs of tuples, and wrong pairs on each side."""
    good = tuple(step for step in plain_steps(size) if len(step) == 2)
    values = STRANGE + (0, 1, (), ((),), ((), (), ()), [(), ()], ([], ()), ((), []), (None, ()), ((), None), ({}, ()))
    values = values + ((0, ()), ((), 0), ("", ""), ((), "01"), (wrong_pairs(size)[0], None), {0: (), 1: ()}, (True, ()))
    found = bads_of(errors.BadTold, values, index=None)
    for wrong in wrong_pairs(size):
        found = found + bads_of(errors.BadTold, ((wrong, ()), (wrong, good), (wrong, wrong)), index=0)
        found = found + bads_of(errors.BadTold, (((), wrong), (good, wrong)), index=1)
    return found


def bad_words():
    values = STRANGE + (0, 1, (), (1,), (2,), (-1,), (0, 2), (0, -1), (0, 1, 3), (0, 0, 2), (0, 1, 1, 3), (1, 0), (0,) * 7)
    values = values + (tuple(range(7)), (True,), (False,), (0, True), (0, False), ("0",), (None,), (0, None), (0, "1"), [0, 1])
    values = values + ((0, HUGE), (HUGE,), ((0,),), (0, (1,)), "01", {0: 0}, ({},), (0, 1, 2, 3, 4, 6), (0, 1, 0, -1))
    return bads_of(errors.BadWord, values)


def bad_crowds(many=None):
    """Return values that are no crowds, and crowds of other numbers of people than this one, if it is told."""
    values = STRANGE + (0, 1, (), (-1,), (1000,), (HUGE,), (0,) * 201, (True,), (False,), ("0",), (None,), [0], [0, 1])
    values = values + ((0, None), (0, True), (0, -1), (999, 1000), ((0,),), (0, (1,)), "01", {0: 0}, ({},), (0,) * 500)
    values = values + ((0,) * 199 + (1000,), (0,) * 199 + (False,), (-1,) + (0,) * 199)
    others = [] if many is None else [(0,) * other for other in (1, 2, 3, 6, 199, 200) if other != many]
    return bads_of(errors.BadCrowd, values + tuple(others))
