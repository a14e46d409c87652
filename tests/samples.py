"""Spots of many kinds, by names: of lines, conics, grids, and drawn ones."""

from pointrows.points import Spots
from tests.helpers import draw_points, draws

SAMPLES = {
    "one": Spots([(3, -5, 7)]),
    "two": Spots([(1, 0, 0), (5, 2, 1)]),
    "bent": Spots([(0, 0, 1), (1, 0, 1), (2, 0, 1), (0, 1, 1)]),
    "corners": Spots([(1, 0, 0), (0, 1, 0), (0, 0, 1), (1, 1, 1)]),
    "six": Spots([(0, 0, 1), (1, 0, 1), (2, 0, 1), (0, 1, 1), (1, 1, 1), (0, 2, 1)]),
    "line of five": Spots([(i, 2 * i + 1, 1) for i in range(5)]),
    "line of nine": Spots([(i, 1, i) for i in range(-4, 5)]),
    "line of ten": Spots([(i, 3, 1) for i in range(10)]),
    "line of 24": Spots([(1, i, 0) for i in range(24)]),
    "nine of a line, one beside": Spots([(i, 0, 1) for i in range(9)] + [(0, 1, 1)]),
    "conic of six": Spots([(1, i, i * i) for i in range(6)]),
    "conic of 17": Spots([(1, i, i * i) for i in range(-8, 9)]),
    "conic of 18": Spots([(1, i, i * i) for i in range(-9, 9)]),
    "conic of 24": Spots([(1, i, i * i) for i in range(24)]),
    "two lines": Spots([(i, 0, 1) for i in range(1, 6)] + [(0, i, 1) for i in range(1, 7)]),
    "grid of 3 and 3": Spots([(i, j, 1) for i in range(3) for j in range(3)]),
    "grid of 2 and 5": Spots([(i, j, 1) for i in range(2) for j in range(5)]),
    "grid of 4 and 6": Spots([(i, j, 1) for i in range(4) for j in range(6)]),
    "eight of a grid": Spots([(i, j, 1) for i in range(3) for j in range(3)][1:]),
    "drawn 7": Spots(draw_points(draws(7), 7, 5)),
    "drawn 15": Spots(draw_points(draws(15), 15, 9)),
    "drawn 24": Spots(draw_points(draws(24), 24, 30)),
    "drawn near": Spots(draw_points(draws(25), 20, 2)),
    "long beside small": Spots([(0, 0, 1), (1, 0, 0), (1, 1, 1), (999999, -999998, 1), (123456, 1, 654321),
                                (2, 3, -999999)]),
}

# What the document tells of them, or what counting tells.
ROWS = {
    "one": [1],
    "two": [1, 1],
    "bent": [1, 2, 1],
    "corners": [1, 2, 1],
    "six": [1, 2, 3],
    "line of five": [1] * 5,
    "line of nine": [1] * 9,
    "line of ten": None,
    "line of 24": None,
    "nine of a line, one beside": [1, 2, 1, 1, 1, 1, 1, 1, 1],
    "conic of six": [1, 2, 2, 1],
    "conic of 17": [1, 2, 2, 2, 2, 2, 2, 2, 2],
    "conic of 18": None,
    "conic of 24": None,
    "two lines": [1, 2, 2, 2, 2, 2],
    "grid of 3 and 3": [1, 2, 3, 2, 1],
    "grid of 2 and 5": [1, 2, 2, 2, 2, 1],
    "grid of 4 and 6": [1, 2, 3, 4, 4, 4, 3, 2, 1],
    "eight of a grid": [1, 2, 3, 2],
    "drawn 15": [1, 2, 3, 4, 5],
    "drawn 24": [1, 2, 3, 4, 5, 6, 3],
    "long beside small": [1, 2, 3],
}
TOPS = {
    "one": 1, "two": 1, "bent": 2, "corners": 2, "six": 3, "line of five": 1, "line of nine": 1, "line of ten": 1,
    "line of 24": 1, "nine of a line, one beside": 2, "conic of six": 2, "conic of 17": 2, "conic of 18": 2,
    "conic of 24": 2, "two lines": 2, "grid of 3 and 3": 3, "grid of 2 and 5": 2, "grid of 4 and 6": 4,
    "eight of a grid": 3, "drawn 15": 5, "drawn 24": 6, "long beside small": 3,
}
