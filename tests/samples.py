"""Programs that several tests share."""

ONCE = ((((),), (("r",),), (((), ((("make", "x", ()), ("make", "r", ("x",))),)),)),)
TOP = (((),), (("r",),), (
    ((1,), ((("make", (0, "d"), ()), ("go", 0), ("make", "r", ((0, "u"),))),)),
))
LEAF = ((), ((("make", "u", ("d",)),),))
NODE = ((1,), ((("make", (0, "d"), ("d",)), ("go", 0), ("make", "u", ("d", (0, "u")))),))
DEEP = (TOP, ((("d",),), (("u",),), (LEAF, NODE)))
PAIR = ((1, 1), (
    (("go", 0), ("go", 1), ("go", 0), ("go", 1), ("make", "r", ((0, "u"), (1, "u")))),
))
PART = ((), ((("make", "a", ()),), (("make", "u", ("a",)),)))
TWICE = ((((),), (("r",),), (PAIR,)), (((), ()), ((), ("u",)), (PART,)))
LENT = (
    (((),), (("r",),), (
        ((1,), ((("make", (0, "x"), ()), ("go", 0), ("make", "r", ((0, "y"),))),)),
    )),
    ((("x",),), (("y",),), (
        ((), ((("hand", "y", "x"),),)),
        ((), ((("make", "y", ()),),)),
    )),
)
# NODE without LEAF: no TREE ever ends.
ENDLESS = (TOP, ((("d",),), (("u",),), (NODE,)))

# Which of x and y the callee uses is known once it is entered.
ASKED = (
    (((),), (("r",),), (((1,), ((
        ("make", (0, "x"), ()), ("make", (0, "y"), ()), ("go", 0), ("make", "r", ((0, "z"),)),
    ),)),)),
    ((("x", "y"),), (("z",),), (
        ((), ((("make", "z", ("x",)),),)),
        ((), ((("make", "w", ()), ("make", "z", ("y",))),)),
    )),
)
# x is used, y is used, x is used again; p is never used.
AGAIN = ((((),), (("r",),), (((), ((
    ("make", "x", ()), ("make", "y", ()), ("make", "p", ("x",)), ("make", "q", ("y",)),
    ("make", "r", ("x",)),
),)),)),)
# Five RULES, each with two names at once.
FIVE = ((((),), (("r",),), tuple(
    ((), ((("make", one, ()), ("make", two, ()), ("make", "r", (one, two))),))
    for one, two in ("ab", "bc", "cd", "de", "ea")
)),)
FIVE_NAMES = tuple((0, name) for name in "abcde")

# Behind the first visit all buds and boughs keep their a for the second one.
BUD = ((), ((("make", "a", ()),), (("make", "u", ("a",)),)))
BOUGH = ((1, 1), (
    (("make", "a", ()), ("go", 0), ("go", 1)),
    (("go", 0), ("go", 1), ("make", "u", ("a", (0, "u"), (1, "u")))),
))
STEM = (((),), (("r",),), (((1,), ((("go", 0), ("go", 0), ("make", "r", ((0, "u"),))),)),))
BUSH = (STEM, (((), ()), ((), ("u",)), (BUD, BOUGH)))
YOUNG = (0, ((1, ((0, ()), (0, ()))),))
# A callee that hands u up as it is.
FURTHER = ((1,), ((("make", (0, "d"), ("d",)), ("go", 0), ("hand", "u", (0, "u"))),))
RELAY = (TOP, ((("d",),), (("u",),), (LEAF, FURTHER)))
TWO = ((((),), (("r",),), (((), (
    (("make", "x", ()), ("make", "y", ()), ("make", "r", ("x", "y"))),
)),)),)
# y must not be written over x, which r is made of, too.
MORE = ((((),), (("r",),), (((), (
    (("make", "x", ()), ("make", "y", ("x",)), ("make", "r", ("x", "y"))),
)),)),)

CHAIN = (0, ((1, ((0, ()),)),))
BOTH = (0, ((0, ()), (0, ())))
D, A = ((1, "d"),), ((1, "a"),)
CROSS = (("make", 0), ("make", 1), ("use", 0), ("use", 1))
EMPTY_INS = (((), ()), ((), ()))
CROSSED = ((0, 0), ((((), ()), ((), ()), (4, 4, 4, 4, 4)),))


def chain_of(many):
    """The TREE of DEEP with so many nodes of NODE."""
    tree = (0, ())
    for _ in range(many):
        tree = (1, (tree,))
    return 0, (tree,)


def wide_program(ins, outs):
    """A start that gives as many values to a callee with one visit as that has INS."""
    ins, outs = tuple(ins), tuple(outs)
    row = tuple(("make", (0, name), ()) for name in ins) + (("go", 0), ("make", "r", ()))
    inner = tuple(("make", name, ()) for name in outs)
    return (((),), (("r",),), (((1,), (row,)),)), ((ins,), (outs,), (((), (inner,)),))


def shuffling_program(rules):
    """A callee with the INS a to d and the OUTS e to h, and these RULES."""
    row = tuple(("make", (0, name), ()) for name in "abcd")
    row += (("go", 0), ("make", "r", tuple((0, name) for name in "efgh")))
    top = (((),), (("r",),), (((1,), (row,)),))
    return top, ((tuple("abcd"),), (tuple("efgh"),), tuple(rules))


def plain_leaf(names):
    """A RULE that hands these INS to the OUTS e to h."""
    return (), (tuple(("hand", out, name) for out, name in zip("efgh", names)),)


def shuffle(names, used=()):
    """A RULE that calls its own PROCEDURE with these INS, and maybe uses some of its own."""
    row = tuple(("hand", (0, place), name) for place, name in zip("abcd", names)) + (("go", 0),)
    if used:
        row += (("make", "x", tuple(used)),)
    return (1,), (row + tuple(("hand", out, (0, out)) for out in "efgh"),)


# All 256 ways to hand the INS to the OUTS, each with any set of INS used: 4,096 PASSINGS.
CROWDED = shuffling_program([
    plain_leaf("abcd"), shuffle("bacd"), shuffle("bcda"), shuffle("aacd"), shuffle("abcd", "a"),
])
# Without uses there are 256.
ROOMY = shuffling_program([plain_leaf("abcd"), shuffle("bacd"), shuffle("bcda"), shuffle("aacd")])
