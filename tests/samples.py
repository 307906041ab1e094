"""Values that the tests share."""

NO_INTEGERS = (
    True,
    False,
    None,
    "",
    "1",
    "signed 8",
    (),
    (0,),
    (0, 1),
    [],
    [0, 1],
    {},
    {0: 1},
    (((((1,),),),),),
    [[[{"a": [()]}]]],
)

NO_TEXTS = (
    True,
    False,
    None,
    0,
    8,
    -1,
    10 ** 17,
    (),
    ("signed 8",),
    ("signed", 8),
    (0, 255),
    [],
    ["0..255"],
    {},
    {"signed": 8},
    ((("0..255",),),),
)

NO_SPANS = (
    True,
    False,
    None,
    0,
    5,
    "",
    "1 2",
    "12",
    (),
    (1,),
    (1, 2, 3),
    (2, 1),
    (0, -1),
    (10 ** 17 + 1, 10 ** 17),
    (True, 2),
    (0, True),
    (False, False),
    (None, 2),
    (1, None),
    ("1", "2"),
    (1, "2"),
    ((1, 2), (3, 4)),
    (1, (2,)),
    ((1, 2),),
    [],
    [1, 2],
    [(1, 2)],
    {},
    {1: 2},
    {1: 2, 3: 4},
    ([1], 2),
    (1, {}),
)


def nested(depth):
    """A tuple that stands so deep in lists, tuples and dicts."""
    value = ()
    for level in range(depth):
        value = ((value,), [value], {"a": value})[level % 3]
    return value
