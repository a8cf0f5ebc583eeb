"""Surroundings with draws made of primes, and the first one of them in which programs are parted."""

from chancepoints.alike import PLACE, alike
from chancepoints.errors import BadNumber, TooMany
from chancepoints.judging import is_within
from chancepoints.kinding import kind_for
from chancepoints.kinds import arguments_and_answer, check_kind
from chancepoints.nodes import LETTERS, MOST_NODES, is_shaped
from chancepoints.weighing import Weighing

MOST_TOLD = 9
MOST_ROUNDS = 35
EVEN = ("draw", ((1, 2), (1, 2)))


class Primes:
    """The row of primes, each raised to one power."""

    def __init__(self, power):
        self.power = power
        self.passed = []

    def _is_divided(self, whole):
        """Whether one of the primes so far divides a whole."""
        for prime in self.passed:
            if prime * prime > whole:
                return False
            if prime * (whole // prime) == whole:
                return True
        return False

    def following(self):
        """The next prime, raised."""
        found = self.passed[-1] + 1 if self.passed else 2
        while self._is_divided(found):
            found += 1
        self.passed.append(found)
        raised = 1
        for _ in range(self.power):
            raised *= found
        return raised


class Making:
    """Makes the told things of one surrounding; a test comes to one of so many numbers as ends tells."""

    def __init__(self, deep, many, seed):
        self.ends = 1
        self.deep = deep
        self.many = many
        self.primes = Primes(seed)
        self.draws = 0

    def next_weights(self, k, worth):
        """So many next weights, for one draw."""
        # Each draw is a node: with too many of them the rest needs not be made.
        self.draws += 1
        if self.draws > MOST_NODES:
            raise TooMany(MOST_NODES)
        return tuple([(1, worth * self.primes.following()) for _ in range(k)])

    def answer_draw(self, k):
        """A draw of an answer."""
        return ("draw", self.next_weights(k, k))

    def test_draw(self):
        """A draw of what a test comes to."""
        return ("draw", self.next_weights(1, 1))

    def deeper(self, body, k):
        """The body of a told thing, made once deeper."""
        return ("case", EVEN, (self.answer_draw(k), ("case", ("name", "t"), (body,))))

    def thing(self, kind):
        """The told thing of a kind."""
        given, k = arguments_and_answer(kind)
        if not given:
            return self.answer_draw(k)
        names = ["x" + LETTERS[at] for at in range(len(given))]
        test = self._test(names, given)
        body = self.answer_draw(k)
        for _ in range(self.deep):
            body = self.deeper(body, k)
        made = ("call", ("fun", "t", ("num", self.ends), body), test)
        for name, part in reversed(list(zip(names, given))):
            made = ("fun", name, part, made)
        return made

    def handed(self, made, kinds):
        """The expression that is handed told things of these kinds, one by one."""
        for kind in kinds:
            made = ("call", made, self.thing(kind))
        return made

    def _test(self, names, kinds):
        testers = []
        for name, kind in zip(names, kinds):
            given, j = arguments_and_answer(kind)
            for _ in range(self.many if given else 1):
                asked = self.handed(("name", name), given)
                testers.append(("case", asked, tuple([self.test_draw() for _ in range(j)])))
        test = testers[-1]
        for tester in reversed(testers[:-1]):
            test = ("case", EVEN, (tester, test))
        return test

    def surrounding(self, kind):
        """The surrounding in which what is put in, of this kind, is handed told things."""
        made = self.handed(("name", PLACE), arguments_and_answer(kind)[0])
        if not is_shaped(made):
            raise TooMany(MOST_NODES)
        return made


def check_told(kind, deep, many, seed):
    """Raise an error unless these are a kind and the numbers of a round."""
    check_kind(kind)
    if not all([is_within(part, 1, MOST_TOLD) for part in (deep, many, seed)]):
        raise BadNumber("no whole from 1 to 9")


def told_surrounding(kind, deep, many, seed):
    """The surrounding in which what is put in is handed told things."""
    check_told(kind, deep, many, seed)
    return Making(deep, many, seed).surrounding(kind)


def _rounds():
    """The list of the rounds that are tried, in their order."""
    found = []
    whole = 3
    while len(found) < MOST_ROUNDS:
        for deep in range(1, whole - 1):
            for many in range(1, whole - deep):
                found.append((deep, many, whole - deep - many))
        whole += 1
    return found


def _surrounding_of(tell, kind, told):
    """The told surrounding of a round; None if it is too large."""
    deep, many, seed = told
    try:
        return tell(kind, deep, many, seed)
    except TooMany:
        return None


def _chances_put(surrounding, kind, program):
    """The chances of the surrounding if the program of this kind is put in."""
    weighing = Weighing()
    thing = weighing.thing(weighing.take_in(program, {}))
    node = weighing.take_in(surrounding, {PLACE: kind})
    return weighing.chances(node, {PLACE: thing}, ())


def first_parting(tell, one, other):
    """The first round that parts two programs of one kind, its surrounding, and both chances.

    tell is a function that tells the surrounding of a kind and a round.
    """
    kind = kind_for(one, {})
    for told in _rounds():
        surrounding = _surrounding_of(tell, kind, told)
        if surrounding is not None:
            chances = _chances_put(surrounding, kind, one)
            others = _chances_put(surrounding, kind, other)
            if chances != others:
                return told, surrounding, chances, others
    raise TooMany(MOST_ROUNDS)


def parted(one, other):
    """None if two programs are alike; otherwise the first round that parts them, and how."""
    return None if alike(one, other) else first_parting(told_surrounding, one, other)
