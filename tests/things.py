"""What several tests hand in: things that are no text, no tuple, or deep and long, and books."""

ALL = "abcdefgh"

# Built of all the kinds that "of anything" names, up to its limits; none of them is a set or a book.
NO_TEXTS = [
    None,
    True,
    False,
    0,
    7,
    -1,
    10 ** 29,
    [],
    ["a"],
    ["a", "b"],
    (),
    ("a",),
    ("a", "b"),
    {},
    {"a": "b"},
    {"a": 1, 2: ["b"], None: {True: ()}},
    [[[[[7]]]]],
    ((((("a",),),),),),
    [None] * 2999,
    (True,) * 2999,
]

NO_SETS = NO_TEXTS + [
    "ba",
    "hgfedcba",
    "acb",
    "aa",
    "abb",
    "abcdefghh",
    "a" * 400,
    "i",
    "z",
    "abcdefghi",
    "A",
    "aB",
    "ABC",
    " ",
    " a",
    "a ",
    "a b",
    "\t",
    "a\t",
    "\n",
    "a\n",
    "\na",
    "-",
    "a,b",
    "`a",
    "0",
    "~",
]


def twelve_hangings():
    """The first twelve hangings of a head of four columns, rising."""
    sides = ["", "a", "ab", "abc"]
    return tuple((left, right) for left in sides for right in sides)[:12]


BOOKS = [
    ("a", ()),
    ("h", (("", "h"),)),
    ("a", (("", ""), ("", "a"), ("a", ""), ("a", "a"))),
    ("abc", (("", "a"), ("ab", "c"))),
    ("bdf", (("b", "d"), ("bd", "bdf"), ("f", ""))),
    ("abcd", twelve_hangings()),
    (ALL, ()),
    (ALL, (("", ""), ("", ALL), (ALL, ""), (ALL, ALL))),
]

NO_BOOKS = NO_TEXTS + [
    "",
    "a",
    "ab",
    "abc: ->a ab>c",
    # the number of parts
    ("a",),
    ("a", (), ()),
    # lists in the place of tuples, at each depth
    ["a", ()],
    ("a", []),
    ("a", [("", "a")]),
    ("a", (["", "a"],)),
    ("ab", (("", "a"), ["", "b"])),
    ["a", [["", "a"]]],
    # the head
    ("", ()),
    ("", (("", ""),)),
    ("ba", ()),
    ("aa", ()),
    ("abi", ()),
    ("A", ()),
    ("a ", ()),
    ("a\n", ()),
    (None, ()),
    (1, ()),
    (True, ()),
    (("a",), ()),
    (["a"], ()),
    ({"a": True}, ()),
    ((), "a"),
    # the hangings
    ("a", None),
    ("a", 0),
    ("a", False),
    ("a", ""),
    ("a", "a"),
    ("a", {}),
    ("a", {("", "a"): True}),
    ("a", ("", "a")),
    ("abcd", twelve_hangings() + (("abcd", "a"),)),
    ("abcd", (("a", "b"),) * 999),
    # their order
    ("ab", (("b", "a"), ("a", "b"))),
    ("ab", (("a", "b"), ("a", "a"))),
    ("ab", (("a", "b"), ("", "a"))),
    ("ab", (("", "a"), ("b", "a"), ("a", "b"))),
    ("ab", (("a", "b"), ("a", "b"))),
    ("ab", (("", "a"), ("a", "b"), ("a", "b"))),
    # things of unlike kinds, which Python cannot compare
    ("ab", (("a", "b"), None)),
    ("ab", (None, ("a", "b"))),
    ("ab", (("a", "b"), (1, 2))),
    ("ab", (("a", "b"), ("a", None))),
    ("ab", ((None, "b"), ("a", "b"))),
]

# Each is no hanging of any head.
NO_HANGINGS = NO_SETS + [
    "",
    "a",
    "ab",
    "a>b",
    # the number of parts; ("a", "b") of NO_TEXTS is a hanging of some heads
    ("a",),
    ("a", "b", "a"),
    ("a", "b", ""),
    ["a", "b"],
    ["", ""],
    # the sides
    ("ba", "a"),
    ("a", "ba"),
    ("aa", "a"),
    ("a", "aa"),
    ("i", "a"),
    ("a", "i"),
    ("A", "a"),
    ("a", "a "),
    ("a", "\t"),
    ("\n", "a"),
    (None, "a"),
    ("a", None),
    (1, "a"),
    ("a", 1),
    (True, "a"),
    ("a", False),
    (["a"], "a"),
    ("a", ["a"]),
    (("a",), "a"),
    ("a", ("a",)),
    ((), ()),
    ({}, "a"),
    ("a", {"a": 1}),
]
NO_HANGINGS.remove(("a", "b"))
