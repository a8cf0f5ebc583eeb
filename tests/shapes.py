"""Expressions of told sizes, and right and wrong ones of each form."""

from tests.oracle import call, case, draw, fun, name, never, num, number, take, to

X = name("x")


def wide(many):
    """An expression with so many nodes and few levels."""
    if many == 1:
        return X
    if many == 2:
        return fun("x", num(2), X)
    left = (many - 1) // 2
    return call(wide(left), wide(many - 1 - left))


def tall(many, make=lambda part: fun("x", num(2), part)):
    """An expression with so many levels, one node each where make adds just one."""
    made = X
    for _ in range(many - 1):
        made = make(made)
    return made


RIGHT = [
    X, name("a"), name("abcdefgh"), name("zzzzzzzz"), name("nums"), name("cal"), name("h"), name("too"),
    number(0, 1), number(5, 6), number(1, 2),
    fun("x", num(2), X), fun("abcdefgh", to(num(2), num(2)), number(0, 1)),
    call(X, X), call(number(0, 1), never(num(1))),
    case(X, X), case(X, X, X), case(X, X, X, X, X, X, X),
    draw((1, 1)), draw((0, 1)), draw((1, 2), (1, 2)), draw((1, 3), (0, 1)), draw(*[(1, 6)] * 6),
    draw((10 ** 79, 10 ** 79 + 1), (1, 10 ** 79 + 1)),
    take("x", X, X), take("y", draw((1, 2)), name("y")),
    never(num(1)), never(to(*[num(2)] * 12)),
    wide(300), wide(299), tall(50), tall(50, lambda part: call(part, X)), tall(50, lambda part: call(X, part)),
    tall(50, lambda part: case(part, X)), tall(50, lambda part: case(X, part)), tall(50, lambda part: case(X, X, part)),
    tall(50, lambda part: take("x", part, X)), tall(50, lambda part: take("x", X, part)),
]

WORDS = ["call", "case", "draw", "fun", "never", "num", "take", "to"]
WRONG_NAMES = WORDS + [
    "", "abcdefghi", "X", "xY", "x1", "x_", "x y", " x", "x\n", "\u00e9", "\u0430", 1, None, True, ("x",), ["x"], {"x": 1},
]
BAD_KINDS = [("num", 0), ("num", 7), ("num", True), 2, None, ["num", 2], to(*[num(2)] * 13), ("num",), "num"]
BAD_PARTS = [
    None, True, 0, "x", (), [], {}, "name", ("name",), ["name", "x"], ("name", "X"), ("num", 2), (X,), [X],
    ("number", 0, 0), ("name", "x", "x"),
]
BAD_WEIGHTS = [(1, 0), (2, 4), (-1, 2), (1, -2), [1, 2], (True, 1), (1, True), 1, None, (1, 2, 3), (0, 2), "1/2"]


def wrong():
    """Values that are no expressions, near each of the forms."""
    found = [wide(301), wide(400), tall(51), tall(52)]
    for make in RIGHT_STEPS:
        found.append(tall(51, make))
        found.extend([make(part) for part in BAD_PARTS])
        found.append(list(make(X)))
        found.append(make(X) + (X,))
        found.append(make(X)[:-1])
    for word in WRONG_NAMES:
        found.extend([("name", word), ("fun", word, num(2), X), ("take", word, X, X)])
    for kind in BAD_KINDS:
        found.extend([("fun", "x", kind, X), ("never", kind)])
    for n, k in [(0, 0), (2, 2), (-1, 2), (6, 7), (0, 7), (True, 2), (0, True), (False, 1), ("0", 2), (0, None), (0, (2,))]:
        found.append(("number", n, k))
    for part in BAD_WEIGHTS:
        found.extend([draw(part), draw((0, 1), part), draw(part, (0, 1))])
    found.extend([
        ("number", 0), ("number", 0, 1, 1), ["number", 0, 1], ("never",), ("never", num(1), num(1)),
        draw(), draw(*[(0, 1)] * 7), ("draw", [(1, 2)]), ("draw", (1, 2)), ("draw",), ("draw", ((1, 2),), ((1, 2),)),
        draw((1, 2), (2, 3)), draw((1, 1), (1, 10 ** 80 - 1)), draw((2, 1)), draw((3, 2)), ["draw", ((1, 2),)],
        ("case", X, ()), ("case", X, [X]), ("case", X, (X,) * 7), ("case", X, X), ("case", X, (X, None)),
        ("case", X, ((X,),)), ("case", X, (X,), X), ("lambda", "x", num(2), X), ("to", X, X), ("num", 2), (X, X),
        (None, X, X), ((), X, X), ([], "x"), ({}, "x"), ("Name", "x"), ("NAME", "x"), (True, "x"),
    ])
    return found


RIGHT_STEPS = [
    lambda part: fun("x", num(2), part),
    lambda part: call(part, X),
    lambda part: call(X, part),
    lambda part: case(part, X),
    lambda part: case(X, part),
    lambda part: case(X, X, X, part, X, X, X),
    lambda part: take("x", part, X),
    lambda part: take("x", X, part),
]
