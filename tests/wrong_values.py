"""Values that are no argument of the kind that their list is called by."""

OTHERS = (
    None, True, False, "", "01", "best", "keep", (), [], {}, 2 ** 80, -1, (None,), [[]], {"best": 2}, ((),) * 3,
)

PEOPLE = OTHERS + (0, 1, 4, 6, -2, "2", (2,), [2], {2: 3})

ROWS = OTHERS + (
    0, 2, 3, "01 10", ((0, 1),), ((0, 1),) * 3, ((0, 1),) * 4, ((0, 1, 2),) * 2, ((0, 1, 2),) * 4,
    [(0, 1), (0, 1)], ([0, 1], (0, 1)), ((0, 1), [0, 1]), {(0, 1): (1, 0)}, ((0, 1), {0: 0, 1: 1}),
    ((0, 1), (0, 0)), ((0, 1), (0, 2)), ((0, 1), (-1, 0)), ((1, 2), (1, 2)), ((0, 1), (0,)), ((0, 1), ()),
    ((False, True), (0, 1)), ((0, 1), (0, True)), ((0, 1), (False, 1)), ((0, 1), ("0", "1")), ((0, 1), "01"),
    ((0, 1), None), ((0, 1), (0, None)), ((0, 1), (0, (1,))), ((0, 1), (0, [1])), ((0, 1), 1),
    ((0, 1, 2), (0, 1, 2), (0, 1)), ((0, 1, 2), (0, 1, 2), (0, 1, 1)), ((0, 1, 2), (0, 1, 3), (0, 1, 2)),
    ((0, 1, 2), (0, 1, 2), [0, 1, 2]), ((0, 1, 2), (0, 1, 2), (0, True, 2)), ((0, 1, 2), (0, 1, 2), (0, 1, 2, 3)),
    ((0,),), ((0, 1, 2, 3),) * 4, (0, 1), (0, 1, 2), ((0, 1), (0, 1, 1)), ((0, 1, 2), (0, 1, 2), (0, 1, 2, 2)),
)

DEALINGS = OTHERS + (
    0, 1, (0,), (0, 1, 2, 3), [0, 1], [0, 1, 2], {0: 0, 1: 1}, "012", (0, 0), (1, 1), (0, 2), (1, 2), (-1, 0),
    (0, 1, 1), (1, 2, 3), (0, 1, 3), (False, True), (0, True), (1, False), (0, True, 2), (0, None), ("0", "1"),
    ((0,), (1,)), (0, (1,)), (0, [1]), (0, {}), ((0, 1), (1, 0)),
)

# Each value with the index that its error is to have.
RULES = tuple((value, None) for value in OTHERS) + (
    (0, None), (2, None), ("0010", None), ([0, 0, 1, 0], None), ({0: 0, 1: 0, 2: 1, 3: 0}, None),
    ((0,) * 3, None), ((0,) * 5, None), ((0,) * 215, None), ((0,) * 217, None), ([0] * 216, None), ("0" * 216, None),
    (((0, 0, 1, 0),), None), ((7,) * 6, None),
    ((2, 0, 1, 0), 0), ((0, -1, 1, 0), 1), ((0, 0, True, 0), 2), ((0, 0, 1, False), 3), ((0, 0, "1", 9), 2),
    ((0, None, None, 0), 1), ((0, 0, 0, (0,)), 3), ((0, [0], 0, 0), 1), ((0, 0, {}, 0), 2), ((0, 0, 1, 2 ** 80), 3),
    ((6,) + (0,) * 215, 0), ((5,) * 215 + (6,), 215), ((5,) * 100 + (-1,) + (0,) * 115, 100),
    ((0,) * 50 + (True,) + (6,) * 165, 50), ((0,) * 7 + ([0],) + (0,) * 208, 7), ((None,) * 216, 0),
)

PERSONS = tuple(value for value in OTHERS) + (-2, 3, 4, "0", "1", (0,), [1], {0: 1})

NAMES = OTHERS[:5] + OTHERS[7:] + (
    "best", "swap", "Keep", "keep ", " keep", "rings turns", 0, 2, ("keep",), ["keep"], {"keep": 1},
)

AXIOMS = OTHERS[:5] + OTHERS[6:] + (
    "fair", "Best", "best ", "tops truthful", 0, 14, ("best",), ["best"], {"best": 1},
)

# No wanted axioms: of another kind, unknown, not ascending, double.
WANTED = OTHERS[:7] + OTHERS[8:] + (
    0, 2, "open", ["best"], ["best", "core"], {"best": "core"}, ("fair",), ("Best",), ("best ",), ("best", "fair"),
    ("core", "best"), ("best", "best"), ("best", "core", "core"), ("things", "own"), ("tops", "truthful", "things"),
    ("best", None), ("best", True), ("best", 0), ("best", ("core",)), ("best", ["core"]), (["best"],), (("best",),),
    ("best", {"core": 1}), ("best", "core", 3), ("best core",), (True,), ("", "best"),
)

# No strings.
NO_TEXTS = tuple(value for value in OTHERS if not isinstance(value, str)) + (
    0, 1, ("01 10",), ["01 10"], {"01 10": 1}, ((0, 1), (1, 0)), (0, 0, 1, 0), [["row"]], ("row",),
)
