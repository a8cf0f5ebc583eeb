"""A slow search for beginnings of right texts, made by other means than the package's reader.

The words of a text are read as those of an expression of which the rest is missing. What is
not known of a kind is a variable; kinds that have to be one are made so. Of a word that is only
begun, all words that may come of it are tried one by one.
"""

import re
from math import gcd

from tests.oracle import frac

HEADS = ["number", "fun", "call", "case", "draw", "take", "never"]
KEPT = ["call", "case", "draw", "fun", "never", "num", "take", "to"]


class Wrong(Exception):
    pass


class Unknown:
    """A kind of which nothing is known, until it is told to be another one."""

    def __init__(self):
        self.told = None


class Count:
    """A k of a num k, of which only a range is known."""

    def __init__(self, low, high=6):
        self.low, self.high = low, high
        self.told = None


def found(term):
    while isinstance(term, (Unknown, Count)) and term.told is not None:
        term = term.told
    return term


def same_count(one, other):
    one, other = found(one), found(other)
    if one is other:
        return
    if isinstance(one, int) and isinstance(other, int):
        if one != other:
            raise Wrong()
        return
    if isinstance(one, int):
        one, other = other, one
    low = other if isinstance(other, int) else other.low
    high = other if isinstance(other, int) else other.high
    low, high = max(low, one.low), min(high, one.high)
    if low > high:
        raise Wrong()
    if isinstance(other, Count):
        other.low, other.high = low, high
    one.told = other


def same(one, other):
    one, other = found(one), found(other)
    if one is other:
        return
    if isinstance(one, Unknown):
        one.told = other
    elif isinstance(other, Unknown):
        other.told = one
    elif one[0] != other[0]:
        raise Wrong()
    elif one[0] == "num":
        same_count(one[1], other[1])
    else:
        same(one[1], other[1])
        same(one[2], other[2])


def least_nums(term):
    term = found(term)
    if isinstance(term, Unknown) or term[0] == "num":
        return 1
    return least_nums(term[1]) + least_nums(term[2])


def is_whole_word(word):
    return re.fullmatch("0|[1-9][0-9]{0,79}", word) is not None


def weight_of(word, left):
    parts = word.split("/")
    if len(parts) > 2 or not all(is_whole_word(part) for part in parts):
        raise Wrong()
    top, bottom = int(parts[0]), int(parts[1]) if len(parts) == 2 else 1
    if len(parts) == 2 and bottom < 2 or gcd(top, bottom) != 1 or frac((top, bottom)) > left:
        raise Wrong()
    return frac((top, bottom))


def may_become_weight(word, left):
    """Whether a begun word may become a weight: bottoms at both ends of each length are tried."""
    words = [word]
    head, slash, tail = word.partition("/")
    for more in range(0, 81 - len(tail)):
        if not re.fullmatch("[0-9]*", tail) or not re.fullmatch("[0-9]+", head):
            break
        low, high = int("0" + tail + "0" * more), int("0" + tail + "9" * more)
        if left > 0:
            low = max(low, -(-int(head) * left.denominator // left.numerator))
        near = list(range(low, min(low + 60, high + 1))) + list(range(max(low, high - 60), high + 1))
        words.extend(head + "/" + str(bottom) for bottom in near if str(bottom).startswith(tail))
    for told in words:
        try:
            weight_of(told, left)
            return True
        except Wrong:
            pass
    return False


class Search:
    def __init__(self, words):
        self.words = words
        self.at = 0
        self.nodes = 0
        self.sized = []

    def over(self):
        return self.at >= len(self.words)

    def next(self, weight=False):
        self.at += 1
        word = self.words[self.at - 1]
        if isinstance(word, tuple) and not weight:
            raise Wrong()
        return word

    def digit(self, low, high):
        word = self.next()
        if word not in [str(k) for k in range(low, high + 1)]:
            raise Wrong()
        return int(word)

    def end(self):
        if not self.over() and self.next() != ")":
            raise Wrong()

    def kind(self):
        term = self.kind_within()
        self.sized.append(term)
        return term

    def kind_within(self):
        if self.over():
            return Unknown()
        if self.words[self.at] != "(":
            return ("num", self.digit(1, 6))
        self.next()
        if not self.over() and self.next() != "to":
            raise Wrong()
        made = ("to", self.kind_within(), self.kind_within())
        self.end()
        return made

    def expression(self, env, kind, level):
        self.nodes += 1
        self.sized.append(kind)
        if self.nodes > 300 or level > 50:
            raise Wrong()
        if self.over():
            return
        word = self.next()
        if word != "(":
            if word not in env:
                raise Wrong()
            same(env[word], kind)
            return
        if self.over():
            return
        word = self.next()
        if word not in HEADS:
            raise Wrong()
        getattr(self, "read_" + word)(env, kind, level)
        self.end()

    def new_name(self):
        if self.over():
            return None
        word = self.next()
        if not re.fullmatch("[a-z]{1,8}", word) or word in KEPT:
            raise Wrong()
        return word

    def read_number(self, env, kind, level):
        low = 1 if self.over() else self.digit(0, 5) + 1
        same(kind, ("num", Count(low) if self.over() else self.digit(low, 6)))

    def read_fun(self, env, kind, level):
        word = self.new_name()
        given, answer = self.kind(), Unknown()
        same(kind, ("to", given, answer))
        self.expression({**env, word: given}, answer, level + 1)

    def read_call(self, env, kind, level):
        given = Unknown()
        self.expression(env, ("to", given, kind), level + 1)
        self.expression(env, given, level + 1)

    def read_case(self, env, kind, level):
        k = None if self.over() else self.digit(1, 6)
        self.expression(env, ("num", k or Count(1)), level + 1)
        for _ in range(k or 1):
            self.expression(env, kind, level + 1)

    def read_take(self, env, kind, level):
        word = self.new_name()
        k = Count(1) if self.over() else self.digit(1, 6)
        self.expression(env, ("num", k), level + 1)
        self.expression({**env, word: ("num", k)}, kind, level + 1)

    def read_never(self, env, kind, level):
        same(kind, self.kind())

    def read_draw(self, env, kind, level):
        left = frac((1, 1))
        many = 0
        while not self.over() and self.words[self.at] != ")":
            word = self.next(True)
            many += 1
            if isinstance(word, tuple):
                if not may_become_weight(word[0], left):
                    raise Wrong()
            else:
                left -= weight_of(word, left)
        same(kind, ("num", Count(max(many, 1)) if self.over() else many))
        if many > 6 or not self.over() and many == 0:
            raise Wrong()


def is_right_so_far(words, names, kind):
    search = Search(words)
    try:
        search.expression(dict(names), kind or Unknown(), 1)
    except Wrong:
        return False
    return search.over() and all(least_nums(term) <= 12 for term in search.sized)


def words_of(text):
    return re.findall(r"[()]|[^() \n]+", text)


def is_beginning(text, names, kind):
    words = words_of(text)
    if not text or text[-1] in " \n()":
        return is_right_so_far(words, names, kind)
    begun = words.pop()
    tried = [begun, begun + "q", (begun,)]
    told = HEADS + ["to"] + [x for x, _ in names] + [word for word in words if re.fullmatch("[a-z]+", word)]
    tried += [word for word in dict.fromkeys(told) if word.startswith(begun)]
    return any(is_right_so_far(words + [word], names, kind) for word in tried)


def is_right(text, names, kind):
    """Whether a text is right: so far, and nothing is missing."""
    words = words_of(text)
    if not words or not is_right_so_far(words, names, kind):
        return False
    return not is_right_so_far(words[:-1] + [words[-1], "("], names, kind) and complete(words)


def complete(words):
    depth = 0
    for at, word in enumerate(words):
        depth += (word == "(") - (word == ")")
        if depth == 0:
            return at == len(words) - 1
    return False


def longest_beginning(text, names=(), kind=None):
    """The length of the longest beginning with which a text begins."""
    at = 0
    while at < len(text) and is_beginning(text[:at + 1], names, kind):
        at += 1
    return at
