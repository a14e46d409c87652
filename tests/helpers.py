"""What several tests need: values that are not valid, drawn values, and how parameters are looked at."""

import copy
import random
from fractions import Fraction

from pointrows.forms import Form
from pointrows.points import Spots


class Odd:
    """A value that must not be compared with anything."""

    def __eq__(self, other):
        raise AssertionError("compared")

    __hash__ = None


NO_INTEGERS = [None, True, False, "", "1", "x", b"1", [], [1], (), (1,), {}, {1: 1}, set(), object(), int, len, Odd()]
NO_COUNTS = NO_INTEGERS + [-1, -(10 ** 29)]
NO_POINTS = NO_INTEGERS + [
    0, 7, (0, 0, 0), [0, 0, 0], (1, 2), [1, 2, 3, 4], (True, 0, 1), [0, False, 1], (False, False, False), (1, 1, True),
    ("1", 0, 0), (None, 1, 1), {1, 2, 3}, {1: 1, 2: 2, 3: 3}, "123", ((1,), 2, 3), [[1, 2, 3]], [1, 2, Odd()],
]
NO_TABLES = NO_INTEGERS + [
    0, 7, [[1, 0, 0], [0, 1, 0]], [[1, 0, 0], [0, 1, 0], [0, 0, 1], [1, 1, 1]], [[1, 0], [0, 1], [1, 1]],
    [[1, 0, 0], [0, 1, 0], [0, 0, 0]], [[1, 2, 3], [4, 5, 6], [7, 8, 9]], ((0, 0, 0), (0, 0, 0), (0, 0, 0)),
    [[True, 0, 0], [0, 1, 0], [0, 0, 1]], [[1, 0, False], [0, 1, 0], [0, 0, 1]], [[1, 0, 0], [0, "1", 0], [0, 0, 1]],
    [[1, 0, 0], [0, 1, 0], None], [1, 0, 0, 0, 1, 0, 0, 0, 1], ["100", "010", "001"], {0: 1, 1: 2, 2: 3},
    [[1, 0, 0], [0, 1, 0], [0, 0, Odd()]], [[1, 0, 0], [0, 1, 0], {0, 1, 2}],
]
NO_FORMS = NO_INTEGERS + [0, 7, Form, {(1, 0, 0): 1}, (1, {(1, 0, 0): 1}), Spots([(0, 0, 1)])]
NO_SPOTS = NO_INTEGERS + [0, 7, Spots, [(0, 0, 1)], ((0, 0, 1), (1, 0, 1)), Form(1, {(1, 0, 0): 1})]
NO_LINES = NO_FORMS + [Form(1, {}), Form(0, {(0, 0, 0): 1}), Form(2, {(2, 0, 0): 1}), (1, 0, 0)]

def no_position_lists(size):
    """Values that are no list of unlike positions among as many as the size, not of all."""
    return [value for value in NO_INTEGERS if not isinstance(value, (list, tuple))] + [
        0, 1, {0}, "0", {0: 1}, [size], [-1], [0, 0], [1, 0, 1], [True], [False], (0, True), ["0"], [None], [[0]], [(0,)],
        [Odd()], [10 ** 29], list(range(size)), tuple(range(size))[::-1], list(range(size + 1)), [0, 0] + [1] * (size - 2),
        Spots([(0, 0, 1)]),
    ]


def no_degrees(most):
    """Values that are no degree up to the greatest one."""
    return NO_COUNTS + [most + 1, 10 ** 29]


def no_positions(size):
    """Values that are no position among as many as the size."""
    return NO_COUNTS + [size, size + 1, 10 ** 29]


def same_value(value, other):
    """Whether a value is the other one, or an equal one of the same kind."""
    return value is other or (type(value) is type(other) and value == other)


def refused(case, error, attributes, function, *values, **named):
    """The call raises just this error, with just these attributes."""
    with case.assertRaises(error) as caught:
        function(*values, **named)
    case.assertIs(type(caught.exception), error)
    for name, value in attributes.items():
        case.assertTrue(same_value(getattr(caught.exception, name), value), (error, name, value))


def look_at_parameters(case, function, parameters):
    """Each wrong value of each parameter raises its error, by position and by name, the first parameter's ahead.

    A parameter is told by its name, a valid value, its error and wrong values; the error's attribute is the value.
    """
    names = [parameter[0] for parameter in parameters]
    good = [parameter[1] for parameter in parameters]
    for at, (name, _, error, wrong) in enumerate(parameters):
        for value in wrong:
            values = good[:at] + [value] + good[at + 1:]
            named = dict(zip(names, values))
            refused(case, error, {"value": value}, function, *values)
            refused(case, error, {"value": value}, function, **named)
            refused(case, error, {"value": value}, function, *values[:1], **dict(list(named.items())[1:]))
            for behind in range(at + 1, len(parameters)):
                if parameters[behind][2] is not None:
                    both = values[:behind] + [parameters[behind][3][0]] + values[behind + 1:]
                    refused(case, error, {"value": value}, function, *both)


def told_twice(case, function, *values):
    """What the call returns; a second one returns an equal result, and nothing that is passed changes."""
    ahead = copy.deepcopy(values)
    first = function(*values)
    kept = copy.deepcopy(first)
    if isinstance(first, (list, dict)):
        case.assertIsNot(first, function(*values))
        first.clear()
    case.assertEqual(function(*values), kept)
    case.assertEqual(values, ahead)
    case.assertEqual([type(value) for value in values], [type(value) for value in ahead])
    return kept


def triples_by_hand(degree):
    """All triples with this sum, in the descending order of Python."""
    span = range(degree + 1)
    return sorted([(i, j, k) for i in span for j in span for k in span if i + j + k == degree], reverse=True)


def draw_form(draws, degree, size, share=1):
    """A drawn form that is not nought; about the share of the triples have a number."""
    while True:
        terms = {triple: draws.randint(-size, size) for triple in triples_by_hand(degree) if draws.random() <= share}
        terms = {triple: number for triple, number in terms.items() if number != 0}
        if terms:
            return Form(degree, terms)


def draw_points(draws, many, size, last=None):
    """Unlike drawn points, the last number perhaps told."""
    found = []
    while len(found) < many:
        point = [draws.randint(-size, size), draws.randint(-size, size), draws.randint(-size, size)]
        if last is not None:
            point[2] = last
        if any(point) and all(any(cross_by_hand(point, other)) for other in found):
            found.append(tuple(point))
    return found


def draw_table(draws, size):
    """A drawn table."""
    while True:
        rows = [[draws.randint(-size, size) for _ in range(3)] for _ in range(3)]
        if det_by_hand(rows) != 0:
            return rows


def cross_by_hand(one, other):
    """The three differences of products that are all 0 for the same points."""
    return [one[1] * other[2] - one[2] * other[1], one[2] * other[0] - one[0] * other[2],
            one[0] * other[1] - one[1] * other[0]]


def det_by_hand(rows):
    """The determinant by its six products."""
    (a, b, c), (d, e, f), (g, h, i) = rows
    return a * e * i + b * f * g + c * d * h - c * e * g - b * d * i - a * f * h


def led_by_hand(rows, numbers):
    """The sums of products of the rows with the numbers."""
    return [sum(number * other for number, other in zip(row, numbers)) for row in rows]


def worth_by_hand(form, numbers):
    """What the form comes to with three numbers."""
    x, y, z = numbers
    return sum(number * x ** i * y ** j * z ** k for (i, j, k), number in form.terms().items())


def rank_by_hand(rows):
    """How many rows are independent, by fractions."""
    rows = [[Fraction(number) for number in row] for row in rows]
    found = 0
    for column in range(len(rows[0]) if rows else 0):
        pivots = [row for row in rows if row[column] != 0]
        if pivots:
            pivot = pivots[0]
            rows = [row for row in rows if row is not pivot]
            rows = [[number - row[column] / pivot[column] * other for number, other in zip(row, pivot)] for row in rows]
            found += 1
    return found


def draws(seed):
    """A source of numbers that are the same in each run."""
    return random.Random(seed)
