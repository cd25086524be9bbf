"""Wrong values, shared by the tests."""

# Values that are neither a page nor an event nor a shelf nor a log.
NO_PAGES = [
    None,
    True,
    False,
    0,
    1,
    -1,
    10**50,
    1.0,
    1j,
    "",
    "abcde",
    b"",
    b"a",
    b"hit",
    bytearray(b"a"),
    {},
    {"a": "b"},
    {"hit": "a"},
    set(),
    {"a"},
    frozenset("a"),
    range(0),
    range(2),
    iter(()),
    object(),
    int,
    len,
]

# Values that are neither an event nor a shelf nor a log.
ODD_VALUES = NO_PAGES + ["a", "hit"]

WRONG_PAGES = [
    "",
    "abcde",
    "a" * 3000,
    "A",
    "aB",
    "abcD",
    "1",
    "a1",
    "1a",
    " ",
    "a ",
    " a",
    "a b",
    "a\n",
    "\n",
    "\t",
    "-a",
    "+a",
    "a,b",
    "a_b",
    "_",
    "`",
    "{",
    "@",
    "a.",
    "~",
    "\x00",
    "\u00e4",
    "\u00df",
    "\u0430",
    "\u00aa",
    "\uff41",
    "\ud800",
    ("a",),
    ["a"],
    (),
    [],
    ((("a",),),),
    [[["a"]]],
    {"a": [("a",)]},
    ["a", ["b", ("c", {"d": [None]})]],
] + NO_PAGES

RIGHT_PAGES = ["a", "z", "m", "ab", "zz", "abc", "aaa", "wxyz", "zzzz", "hit", "miss", "none"]

WRONG_MARKS = [
    "out",
    "Hit",
    "HIT",
    "Miss",
    "hit ",
    " hit",
    "hits",
    "hi",
    "h",
    "mis",
    "misses",
    "",
    "+",
    "-",
    "hitmiss",
    "hit, miss",
    "a",
    b"hit",
    b"miss",
    None,
    True,
    False,
    0,
    1,
    2.5,
    ("hit",),
    ["hit"],
    {"hit": "miss"},
    {"hit"},
    object(),
]

WRONG_EVENTS = (
    [
        (),
        ("hit",),
        ("a",),
        ("hit", "a", "b"),
        ("hit", "a", None),
        ("hit", "hit", "a"),
        ("a", "hit"),
        ("a", "a"),
        ["hit", "a"],
        ["miss", "a"],
        {"hit": "a", "miss": "b"},
        {"hit", "a"},
        "ha",
        "hit",
        "hit a",
        b"ha",
        (("hit", "a"),),
        [("hit", "a")],
        (("hit", "a"), ("miss", "b")),
        [("hit", "a"), ("miss", "b")],
        ("hit", ("hit", "a")),
        (("hit",), ("a",)),
    ]
    + ODD_VALUES
    + [(mark, "a") for mark in WRONG_MARKS]
    + [("hit", page) for page in WRONG_PAGES]
    + [("miss", page) for page in WRONG_PAGES]
)

WRONG_SHELVES = (
    [
        [],
        ["a"],
        ["a", "b"],
        "ab",
        ("a", "a"),
        ("a", "b", "a"),
        ("a", "b", "b"),
        ("abcd", "x", "abcd"),
        (("a",),),
        (("a", "b"),),
        ("a", ("b",)),
        ("a", ["b"]),
        (["a"], ["a"]),
        ({}, "a"),
        ("a", {"b": ("c",)}),
        ("hit", "hit"),
        (("hit", "a"),),
        [()],
        ((),),
    ]
    + ODD_VALUES
    + [(page,) for page in WRONG_PAGES]
    + [("a", page) for page in WRONG_PAGES]
    + [(page, "a") for page in WRONG_PAGES]
)

WRONG_LOGS = (
    [
        (),
        (("hit", "a"),),
        (("miss", "a"), ("miss", "b")),
        ("miss", "a"),
        ["miss", "a"],
        ["a"],
        ["a", "b"],
        "-a",
        "-a -b +a",
        {"miss": "a"},
        {("miss", "a")},
        {("miss", "a"): 0},
        [[]],
        [[("miss", "a")]],
        [[[("miss", "a")]]],
        [("miss", "a"), [("miss", "b")]],
    ]
    + ODD_VALUES
    + [[event] for event in WRONG_EVENTS]
    + [[("miss", "a"), event] for event in WRONG_EVENTS]
    + [[event, ("miss", "a")] for event in WRONG_EVENTS]
)

WRONG_CAPACITIES = [
    0,
    -1,
    -40,
    -(10**44),
    True,
    False,
    None,
    "",
    "1",
    "2",
    "two",
    b"2",
    1.0,
    2.5,
    1j,
    float("nan"),
    float("inf"),
    (),
    (2,),
    [],
    [2],
    {},
    {2: 2},
    {2},
    range(2),
    object(),
    int,
]

# Values that are no integers, though some are equal to one.
NO_INTEGERS = [value for value in WRONG_CAPACITIES if type(value) is not int] + [0.0, 3.0, "", "0", b"0", (0,), [0]]


class Refusing:
    """A value with which nothing can be done."""

    def __eq__(self, other):
        raise RuntimeError

    def __hash__(self):
        raise RuntimeError

    def __len__(self):
        raise RuntimeError

    def __bool__(self):
        raise RuntimeError

    def __iter__(self):
        raise RuntimeError

    def __lt__(self, other):
        raise RuntimeError

    def __index__(self):
        raise RuntimeError
