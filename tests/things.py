"""What several tests hand in: things that are no text, no tuple, or deep and long, books, tables and splits."""

import itertools

ALL = "abcdefgh"

# Built of all the kinds that "of anything" names, up to its limits; none of them is a set or a book.
NO_TEXTS = [
    None,
    True,
    False,
    0,
    7,
    -1,
    10 ** 29,
    [],
    ["a"],
    ["a", "b"],
    (),
    ("a",),
    ("a", "b"),
    {},
    {"a": "b"},
    {"a": 1, 2: ["b"], None: {True: ()}},
    [[[[[7]]]]],
    ((((("a",),),),),),
    [None] * 2999,
    (True,) * 2999,
]

NO_SETS = NO_TEXTS + [
    "ba",
    "hgfedcba",
    "acb",
    "aa",
    "abb",
    "abcdefghh",
    "a" * 400,
    "i",
    "z",
    "abcdefghi",
    "A",
    "aB",
    "ABC",
    " ",
    " a",
    "a ",
    "a b",
    "\t",
    "a\t",
    "\n",
    "a\n",
    "\na",
    "-",
    "a,b",
    "`a",
    "0",
    "~",
]


def twelve_hangings():
    """The first twelve hangings of a head of four columns, rising."""
    sides = ["", "a", "ab", "abc"]
    return tuple((left, right) for left in sides for right in sides)[:12]


BOOKS = [
    ("a", ()),
    ("h", (("", "h"),)),
    ("a", (("", ""), ("", "a"), ("a", ""), ("a", "a"))),
    ("abc", (("", "a"), ("ab", "c"))),
    ("bdf", (("b", "d"), ("bd", "bdf"), ("f", ""))),
    ("abcd", twelve_hangings()),
    (ALL, ()),
    (ALL, (("", ""), ("", ALL), (ALL, ""), (ALL, ALL))),
]

NO_BOOKS = NO_TEXTS + [
    "",
    "a",
    "ab",
    "abc: ->a ab>c",
    # the number of parts
    ("a",),
    ("a", (), ()),
    # lists in the place of tuples, at each depth
    ["a", ()],
    ("a", []),
    ("a", [("", "a")]),
    ("a", (["", "a"],)),
    ("ab", (("", "a"), ["", "b"])),
    ["a", [["", "a"]]],
    # the head
    ("", ()),
    ("", (("", ""),)),
    ("ba", ()),
    ("aa", ()),
    ("abi", ()),
    ("A", ()),
    ("a ", ()),
    ("a\n", ()),
    (None, ()),
    (1, ()),
    (True, ()),
    (("a",), ()),
    (["a"], ()),
    ({"a": True}, ()),
    ((), "a"),
    # the hangings
    ("a", None),
    ("a", 0),
    ("a", False),
    ("a", ""),
    ("a", "a"),
    ("a", {}),
    ("a", {("", "a"): True}),
    ("a", ("", "a")),
    ("abcd", twelve_hangings() + (("abcd", "a"),)),
    ("abcd", (("a", "b"),) * 999),
    # their order
    ("ab", (("b", "a"), ("a", "b"))),
    ("ab", (("a", "b"), ("a", "a"))),
    ("ab", (("a", "b"), ("", "a"))),
    ("ab", (("", "a"), ("b", "a"), ("a", "b"))),
    ("ab", (("a", "b"), ("a", "b"))),
    ("ab", (("", "a"), ("a", "b"), ("a", "b"))),
    # things of unlike kinds, which Python cannot compare
    ("ab", (("a", "b"), None)),
    ("ab", (None, ("a", "b"))),
    ("ab", (("a", "b"), (1, 2))),
    ("ab", (("a", "b"), ("a", None))),
    ("ab", ((None, "b"), ("a", "b"))),
]

# Each is no hanging of any head.
NO_HANGINGS = NO_SETS + [
    "",
    "a",
    "ab",
    "a>b",
    # the number of parts; ("a", "b") of NO_TEXTS is a hanging of some heads
    ("a",),
    ("a", "b", "a"),
    ("a", "b", ""),
    ["a", "b"],
    ["", ""],
    # the sides
    ("ba", "a"),
    ("a", "ba"),
    ("aa", "a"),
    ("a", "aa"),
    ("i", "a"),
    ("a", "i"),
    ("A", "a"),
    ("a", "a "),
    ("a", "\t"),
    ("\n", "a"),
    (None, "a"),
    ("a", None),
    (1, "a"),
    ("a", 1),
    (True, "a"),
    ("a", False),
    (["a"], "a"),
    ("a", ["a"]),
    (("a",), "a"),
    ("a", ("a",)),
    ((), ()),
    ({}, "a"),
    ("a", {"a": 1}),
]
NO_HANGINGS.remove(("a", "b"))

# In each chain a hanging wants the one before: in the order of their numbers, and against it.
RISING_CHAIN = (ALL, tuple((ALL[k], ALL[k + 1]) for k in range(7)))
FALLING_CHAIN = (ALL, tuple((ALL[k + 1], ALL[k]) for k in range(7)))
# Here each wants all that came before it.
GROWING_CHAIN = (ALL, tuple((ALL[:k], ALL[k]) for k in range(8)))
SHRINKING_CHAIN = (ALL, tuple(sorted((ALL[k + 1:], ALL[k]) for k in range(8))))
# Each column tells the next one, and the last the first: each is a key.
RING = (ALL, tuple(sorted((ALL[k], ALL[(k + 1) % 8]) for k in range(8))))
# Four pairs of columns that tell one another: a key has one of each, so there are sixteen.
PAIRS = (ALL, tuple(sorted(pair for k in range(0, 8, 2) for pair in [(ALL[k], ALL[k + 1]), (ALL[k + 1], ALL[k])])))
CHAINS = [RISING_CHAIN, FALLING_CHAIN, GROWING_CHAIN, SHRINKING_CHAIN, RING, PAIRS]

LONGEST = 10 ** 30 - 1

TABLES = [
    ("a", ()),
    ("h", ((0,),)),
    ("a", ((-LONGEST,), (0,), (LONGEST,))),
    ("ab", ((0, 0), (0, 1), (1, 0))),
    ("bdf", ((-1, 20, 3), (0, -LONGEST, LONGEST), (0, 20, 3), (7, 20, 4))),
    ("a", tuple((number,) for number in range(80))),
    (ALL, ()),
    (ALL, tuple(tuple([number // 4] * 4 + [number] * 4) for number in range(-40, 40))),
]

NO_TABLES = NO_TEXTS + [
    "",
    "a",
    "ab: -1,20 3,4",
    # the number of parts
    ("a",),
    ("a", (), ()),
    ("a", ((1,),), ()),
    # lists in the place of tuples, at each depth
    ["a", ()],
    ("a", []),
    ("a", [(1,)]),
    ("a", ([1],)),
    ("a", ((1,), [2])),
    ("a", ([1], (2,))),
    ("a", (([1],),)),
    ["a", [[1]]],
    # the head
    ("", ()),
    ("", ((),)),
    ("ba", ()),
    ("ba", ((1, 2),)),
    ("aa", ((1, 2),)),
    ("abi", ()),
    ("A", ()),
    ("a ", ((1,),)),
    (None, ()),
    (1, ()),
    (True, ((1,),)),
    (("a",), ((1,),)),
    (["a"], ()),
    ({"a": 1}, ()),
    ((), "a"),
    # the rows
    ("a", None),
    ("a", 0),
    ("a", True),
    ("a", ""),
    ("a", "1"),
    ("a", {}),
    ("a", {(1,): True}),
    ("a", (1,)),
    ("a", (1, 2)),
    ("a", ("1",)),
    ("a", (None,)),
    ("a", ({},)),
    ("a", ({0: 1},)),
    ("a", tuple((number,) for number in range(81))),
    ("a", ((1,),) * 999),
    # their length
    ("a", ((),)),
    ("a", ((1, 2),)),
    ("ab", ((1,),)),
    ("ab", ((1, 2, 3),)),
    ("ab", ((1, 2), (3,))),
    ("ab", ((1,), (1, 2))),
    # their order
    ("a", ((2,), (1,))),
    ("a", ((1,), (1,))),
    ("a", ((1,), (2,), (2,))),
    ("a", ((1,), (3,), (2,))),
    ("a", ((0,), (-1,))),
    ("ab", ((0, 1), (0, 0))),
    ("ab", ((0, 1), (1, 0), (1, 0))),
    # their numbers
    ("a", ((LONGEST + 1,),)),
    ("a", ((-LONGEST - 1,),)),
    ("ab", ((0, LONGEST), (1, LONGEST + 1))),
    ("a", ((True,),)),
    ("a", ((False,),)),
    ("ab", ((0, True),)),
    ("ab", ((False, 1),)),
    ("ab", ((0, 0), (0, True))),
    ("a", ((None,),)),
    ("a", (("",),)),
    ("a", (("1",),)),
    ("a", (((1,),),)),
    ("a", (({},),)),
    # things of unlike kinds, which Python cannot compare
    ("a", ((1,), ("2",))),
    ("a", ((None,), (1,))),
    ("a", ((1,), None)),
    ("a", (None, (1,))),
    ("ab", ((1, 2), (1, None))),
    # a book with hangings
    ("ab", (("a", "b"),)),
]

# What is none of any head, and what has columns that the head "bdf" lacks.
NO_SETS_OF_BDF = NO_SETS + ["a", "c", "h", "ab", "bc", "bdfh", "abdf", ALL]
NO_HANGINGS_OF_BDF = NO_HANGINGS + [
    ("a", "b"),
    ("b", "a"),
    ("bcd", "b"),
    ("b", "bcd"),
    ("", "h"),
    ("h", ""),
    ("c", "c"),
]

# The first sets with a column at least, one more of them than a split may have: together they have all columns.
SIXTY_FIVE = tuple(sorted("".join(some) for many in range(1, 9) for some in itertools.combinations(ALL, many)))[:65]
SIXTY_FOUR = SIXTY_FIVE[:64]

# None of these is a split of the head "bdf".
NO_SPLITS_OF_BDF = NO_TEXTS + [
    "",
    "bdf",
    "bd/f",
    # lists, dicts and others in the place of the tuple
    ["bdf"],
    ["b", "d", "f"],
    {"bdf": True},
    # lists and others in the place of a set
    (["bdf"],),
    (("bdf",),),
    (("b", "d", "f"),),
    ({"bdf": 1},),
    (None,),
    (0,),
    (True,),
    ("bdf", None),
    (None, "bdf"),
    ("bd", 7),
    (7, "bd"),
    ("bd", ["f"]),
    (["bd"], "f"),
    # a set twice, out of order
    ("bdf", "bdf"),
    ("b", "b", "d", "f"),
    ("b", "df", "df"),
    ("f", "bd"),
    ("d", "b", "f"),
    ("b", "f", "d"),
    ("bf", "bd"),
    # without columns
    ("",),
    ("", "bdf"),
    ("", "b", "d", "f"),
    ("b", "", "df"),
    # with a column that the head lacks, and what is no set
    ("a", "bdf"),
    ("bdf", "h"),
    ("bcdf",),
    ("bd", "cf"),
    ("bd", "f", "g"),
    ("fdb",),
    ("b", "fd"),
    ("bb", "df"),
    ("bd", "f "),
    ("bd", "f\n"),
    ("B", "bdf"),
    ("-", "bdf"),
    ("bd/f",),
    # which together lack a column
    ("b",),
    ("bd",),
    ("b", "d"),
    ("b", "bd", "d"),
    ("bf", "f"),
    # too many
    ("bdf",) * 65,
    ("bdf",) * 999,
]
