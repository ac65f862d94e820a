"""Things that several tests hand in, and how they look at what is told."""

from copy import deepcopy


FRACTIONS = (
    (0, 1),
    (1, 1),
    (-1, 1),
    (2, 1),
    (1, 2),
    (-1, 2),
    (1, 3),
    (2, 3),
    (-2, 3),
    (1, 6),
    (5, 6),
    (-5, 6),
    (7, 12),
    (-360, 7),
    (10**19, 3),
    (-(10**19), 3),
    (12345678901234567891, 98765432109876543210),
    (10**40, 10**40 - 1),
    (10**40 + 1, 10**40),
    (-(10**40) - 1, 10**40),
    (3**90, 2**140),
    (-(3**91), 2**141),
    (1, 10**45),
    (-1, 10**45),
    (10**45, 1),
)


def within_one_another(many, kind, inmost):
    thing = inmost
    for count in range(many):
        thing = kind((thing,))
    return thing


# Neither a fraction nor a place, whatever their size.
OTHER_THINGS = (
    None,
    True,
    False,
    0,
    1,
    -5,
    10**39,
    "",
    "1",
    "12",
    "123",
    "1/2",
    "3,4",
    (),
    [],
    (1,),
    (None,),
    ((1, 2),),
    ((1, 2, 3),),
    [(1, 2)],
    [(1, 2, 3)],
    (1, 2, 3, 5),
    (1, 2, 3, 5, 1),
    (1,) * 20000,
    [1] * 20000,
    ("1",) * 20000,
    within_one_another(60, tuple, 1),
    within_one_another(60, list, 1),
    within_one_another(59, tuple, (1, 2)),
    within_one_another(59, tuple, (1, 2, 3)),
)

# Things that stand where a whole number should.
NO_NUMBERS = (
    True,
    False,
    None,
    "",
    "1",
    "7",
    (),
    [],
    (1,),
    [1],
    (1, 1),
    [0, 1],
    (1, 2, 1),
    within_one_another(50, tuple, 1),
    within_one_another(50, list, 1),
)


def with_one_part_else(parts, other):
    return [parts[:k] + (other,) + parts[k + 1:] for k in range(len(parts))]


def check_answers(test, ask, things, wanted):
    for thing in things:
        kept = deepcopy(thing)
        answer = ask(thing)
        test.assertIs(answer, wanted, thing)
        test.assertEqual(repr(thing), repr(kept))


def check_numbers(test, told, size):
    test.assertIs(type(told), tuple)
    test.assertEqual(len(told), size)
    for part in told:
        test.assertIs(type(part), int)


def check_refused(test, ask, refusal, things, word, at):
    for thing in things:
        kept = deepcopy(thing)
        with test.assertRaises(refusal, msg=repr(thing)) as taken:
            ask(thing)
        test.assertEqual((taken.exception.word, taken.exception.at), (word, at), thing)
        test.assertIs(type(taken.exception.at), int)
        test.assertEqual(repr(thing), repr(kept))
