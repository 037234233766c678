"""What the tests share: values that are not allowed, and plain ways to work things out."""

import copy
import itertools
import random

from templates.errors import TemplateError

DEEP = ()
for _ in range(100):
    DEEP = (DEEP,)

ODD = [
    None, True, False, 0, 1, 2, 3, 4, 5, 7, 9, 16, 17, -1, -2, 10 ** 40, -(10 ** 40), 10 ** 5000,
    "", "0", "2", "size 2", "size 2\nrelation 1 0", "input", "clash",
    (), (0,), (1,), (True,), (-1,), (10 ** 40,), (None,), ("0",), ((),), ([],), ({},), (0, 0), (0, 1), (1, 0),
    (0, True), (1, True), (2, ()), (2, (0, 1)), (1, ((0,),)), (1, ((True,),)), (1, (0, 1)), (1, [0, 1]), (1, [(0,)]),
    (2, ((1, ((0,),)),)), (2, (0, 0, 0, 1)), (2, ((0, 0), (1, 1))), (1, ((0, (0,)),)), (3, ((0, (0, 1)),)),
    (0, ()), (0, ((),)), ("clash", 0), ("clash", True), ("split", 0, (("clash", 0), ("clash", 0))), ("split", 0, ()),
    (("input", 0),), (("apply", 0, (0,)),), (("input", 0), ("apply", 0, (0, 0))), (("input", True),), (("input",),),
    ("input", 0), ((2, (0, 0, 0, 1)),), ((1, (0, 1)), (1, (1, 0))), ((1, (0, 1)),) * 5,
    [], [0], [0, 1], [[]], [(0,)], [2, ()], [1, ((0,),)], {}, {0: 1}, {"a": []}, {(0, 1): (1,)},
    (1, {0: 0}), ({}, {}), ([], []), (2, None), (None, ()), (2, (None,)), DEEP, (DEEP, DEEP), (1, DEEP), [DEEP],
]

BAD_SIZES = [0, 5, -1, 10 ** 40, True, False, None, "2", (2,), [2], {2: 2}, ()]


def bad_relations(size):
    """Values that are no relations of the size."""
    low = (0,)
    bad = [
        None, 1, True, "10", (), (1,), (1, (), ()), [1, ()], [1, (low,)], {1: ()}, {1: 1, 0: 2},
        (0, ()), (0, ((),)), (5, ()), (5, ((0,) * 5,)), (-1, ()), (10 ** 40, ()), (True, (low,)), ("1", (low,)),
        (None, ()), ((1,), (low,)), (1, None), (1, 0), (1, [low]), (1, [0]), (1, {low: 1}), (1, "0"), (1, low),
        (1, ([0],)), (1, ("0",)), (1, (low, low)), (1, ((),)), (1, ((0, 0),)), (2, (low,)), (2, ((0, 0), low)),
        (1, ((size,),)), (1, ((-1,),)), (1, ((10 ** 40,),)), (1, ((False,),)), (1, ((None,),)), (1, (("0",),)),
        (1, (((0,),),)), (2, ((0, 0), (0, size))), (2, ((0, False),)), (1, (low, None)), (4, ((0,) * 3,)),
    ]
    if size > 1:
        bad += [(1, ((1,), (0,))), (1, ((True,),)), (1, ((0,), (True,))), (2, ((0, 1), (0, 0))),
                (2, ((0, 0), (1, 1), (0, 1))), (2, ((0, 0), (0, 1), (0, 1)))]
    return bad


def bad_operations(size):
    """Values that are no operations of the size."""
    bad = [
        None, 1, True, "0", (), (1,), (1, (0,) * size, 0), [1, (0,) * size], {1: (0,)},
        (0, ()), (0, (0,)), (9, (0,) * size ** 9), (-1, (0,)), (10 ** 40, (0,)), (True, (0,) * size),
        ("1", (0,) * size), (None, (0,) * size), (1, [0] * size), (1, None), (1, 0), (1, "0" * size),
        (1, (0,) * (size - 1)), (1, (0,) * (size + 1)), (2, (0,) * (size * size - 1)), (2, (0,) * (size * size + 1)),
        (1, (size,) * size), (1, (-1,) * size), (1, (10 ** 40,) * size), (1, (False,) * size), (1, (None,) * size),
        (1, ("0",) * size), (1, ((0,),) * size), (1, (0,) * (size - 1) + (size,)), (1, ()),
    ]
    if size == 2:
        bad += [(1, (0, True)), (2, (0, 0, 0, True))]
    if size == 3:
        bad += [(6, (0,) * 3 ** 6)]
    if size == 4:
        bad += [(5, (0,) * 4 ** 5)]
    return bad


def bad_places(low, high, bound):
    """Values that are no tuples of low to high integers from 0 to bound - 1."""
    right = (0,) * low
    bad = [None, 0, True, "0", list(right), {0: 0}, (0,) * (high + 1), (0,) * (low - 1), (bound,) * low, (-1,) * low,
           (10 ** 40,) * low, (False,) * low, (None,) * low, ("0",) * low, ((0,),) * low]
    return bad + [right[1:] + (bound,), right[1:] + (False,), right[1:] + (-1,)]


def bad_names(size):
    """Values that are no permutations of the values of the size."""
    right = tuple(range(size))
    bad = [None, 0, True, "01", list(right), {0: 0}, right + (size,), right[1:], right[1:] + (size,), (-1,) + right[1:],
           (False,) + right[1:], (None,) * size, ("0",) * size, ((0,),) * size, right + (0,)]
    if size > 1:
        bad += [(0,) * size, right[1:] + right[1:2], (0, True) + right[2:]]
    return bad


def rows_of(size, arity):
    return list(itertools.product(range(size), repeat=arity))


def some_relations(size, arity, chance, many=3):
    """No rows, all rows, and some relations between."""
    rows = rows_of(size, arity)
    relations = [(arity, ()), (arity, tuple(rows))]
    for _ in range(many):
        relations.append((arity, tuple(sorted(chance.sample(rows, chance.randint(0, len(rows)))))))
    return relations


def some_relation(size, arity, most, chance):
    """A relation of the arity with up to so many rows."""
    rows = rows_of(size, arity)
    return (arity, tuple(sorted(chance.sample(rows, chance.randint(0, min(most, len(rows)))))))


def some_template(size, chance, most=4):
    return (size, tuple(some_relation(size, chance.randint(1, 3), most, chance) for _ in range(chance.randint(0, 3))))


def some_instance(template, variables, many, chance):
    constraints = []
    for _ in range(many if template[1] and variables else 0):
        index = chance.randrange(len(template[1]))
        scope = tuple(chance.randrange(variables) for _ in range(template[1][index][0]))
        constraints.append((index, scope))
    return (variables, tuple(constraints))


def some_operation(size, arity, chance):
    return (arity, tuple(chance.randrange(size) for _ in range(size ** arity)))


def value_at(size, operation, arguments):
    """The value of an operation, by its place among all tuples of arguments."""
    return dict(zip(rows_of(size, operation[0]), operation[1]))[tuple(arguments)]


def plain_breaks(size, operation, relation):
    """The least tuple of rows that is carried out of the relation, by going through all of them."""
    worth = dict(zip(rows_of(size, operation[0]), operation[1]))
    for rows in itertools.product(relation[1], repeat=operation[0]):
        if tuple(worth[column] for column in zip(*rows)) not in relation[1]:
            return rows
    return None


def plain_solutions(template, instance):
    """The ascending list of all solutions, by going through all assignments."""
    size, relations = template
    variables, constraints = instance
    return [values for values in rows_of(size, variables)
            if all(tuple(values[k] for k in scope) in relations[index][1] for index, scope in constraints)]


def plain_closure(size, operations, arity):
    """The ascending list of the operations made of the given ones, by composing until nothing is new."""
    rows = rows_of(size, arity)
    tables = {tuple(row[place] for row in rows) for place in range(arity)}
    worths = [(operation[0], dict(zip(rows_of(size, operation[0]), operation[1]))) for operation in operations]
    while True:
        more = set(tables)
        for many, worth in worths:
            for inner in itertools.product(tables, repeat=many):
                more.add(tuple(worth[arguments] for arguments in zip(*inner)))
        if more == tables:
            return [(arity, table) for table in sorted(tables)]
        tables = more


def told(function, *arguments):
    """What a call says: its answer, or its error with the fields."""
    try:
        return ("answer", function(*arguments))
    except TemplateError as error:
        return (error.__class__.__name__, vars(error))


def shown(value):
    """A value as a short text; Python does not write out very great integers."""
    try:
        return repr(value)[:80]
    except ValueError:
        return "with a very great integer"


def check_bad(test, function, right, place, bad, error, fields=None):
    """Each of the bad values, for the argument at the place, raises the error."""
    for value in bad:
        arguments = list(right)
        arguments[place] = value
        with test.subTest(function=function.__name__, place=place, value=shown(value)):
            test.assertEqual(told(function, *arguments), (error.__name__, fields or {}))


def check_leftmost(test, function, right, wrong):
    """Of several wrong arguments the leftmost one is told; wrong has (value, error, fields) or None for each."""
    places = [place for place, told_wrong in enumerate(wrong) if told_wrong is not None]
    for count in range(1, len(places) + 1):
        for chosen in itertools.combinations(places, count):
            arguments = [wrong[place][0] if place in chosen else value for place, value in enumerate(right)]
            with test.subTest(function=function.__name__, wrong=chosen):
                _, error, fields = wrong[chosen[0]]
                test.assertEqual(told(function, *arguments), (error.__name__, fields))


def check_any_value(test, function, right, odd=None):
    """Any value for any argument ends in an answer or in an error of the package; nothing is modified."""
    values = ODD if odd is None else odd
    for place in range(len(right)):
        for value in values:
            check_call(test, function, list(right[:place]) + [value] + list(right[place + 1:]))
    chance = random.Random(7)
    for _ in range(60):
        check_call(test, function, [chance.choice(values + [part]) for part in right])


def check_call(test, function, arguments):
    before = copy.deepcopy(arguments)
    again = copy.deepcopy(arguments)
    first = told(function, *arguments)
    test.assertTrue(first[0] == "answer" or issubclass(_class(first[0]), TemplateError))
    test.assertEqual(arguments, before)
    test.assertEqual(told(function, *again), first)


def _class(name):
    import templates.errors
    return getattr(templates.errors, name)
