"""Texts of weights, kinds and expressions."""

from chancepoints.kinding import kinds_in


def weight_text(worth):
    """The text of what surely is a weight."""
    top, bottom = worth
    return str(top) if bottom == 1 else f"{top}/{bottom}"


def kind_text(kind):
    """The text of what surely is a kind."""
    if kind[0] == "num":
        return str(kind[1])
    return f"(to {kind_text(kind[1])} {kind_text(kind[2])})"


def expression_text(expression, names):
    """The text of an expression that has a kind for a dict of names."""
    return _text_at(expression, (), kinds_in(expression, names))


def _text_at(expression, path, kinds):
    """The text of the expression at path, kinds being those of all parts."""
    word = expression[0]
    if word == "name":
        return expression[1]
    if word == "number":
        return f"(number {expression[1]} {expression[2]})"
    if word == "draw":
        weights = " ".join([weight_text(part) for part in expression[1]])
        return f"(draw {weights})"
    if word == "never":
        return f"(never {kind_text(expression[1])})"
    if word == "fun":
        body = _text_at(expression[3], path + (3,), kinds)
        return f"(fun {expression[1]} {kind_text(expression[2])} {body})"
    if word == "call":
        called = _text_at(expression[1], path + (1,), kinds)
        given = _text_at(expression[2], path + (2,), kinds)
        return f"(call {called} {given})"
    if word == "case":
        asked = _text_at(expression[1], path + (1,), kinds)
        ways = [_text_at(part, path + (2, at), kinds) for at, part in enumerate(expression[2])]
        behind = " ".join(ways)
        return f"(case {len(ways)} {asked} {behind})"
    taken = _text_at(expression[2], path + (2,), kinds)
    k = kinds[path + (2,)][1]
    body = _text_at(expression[3], path + (3,), kinds)
    return f"(take {expression[1]} {k} {taken} {body})"
