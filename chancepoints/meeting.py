"""Talks that meet: what comes of a talk whose own things are those that other talks tell."""

from chancepoints.errors import BadTalks
from chancepoints.judging import is_list
from chancepoints.kinds import arguments_and_answer, check_kind
from chancepoints.talks import check_talk, is_closed_talk
from chancepoints.weights import ALL, NOTHING, added, multiplied, subtracted, total


def _inner_talks(talk, kinds):
    """The list of pairs of a talk directly in this one, and the kinds of the things it has besides."""
    if talk[0] == "draw":
        return [(part, ()) for _, part in talk[1]]
    if talk[0] != "ask":
        return []
    asked = arguments_and_answer(kinds[talk[1]])[0]
    handed = [(part, arguments_and_answer(kind)[0]) for part, kind in zip(talk[2], asked)]
    return handed + [(part, ()) for part in talk[3]]


def _both(counts, more):
    return tuple([one + other for one, other in zip(counts, more)])


def _put(found, key, chance):
    found[key] = added(found.get(key, NOTHING), chance)


def _put_all(found, outcome, counts, share):
    """Add to found what comes behind so many asks, which have this chance."""
    for (answer, behind), chance in outcome.items():
        _put(found, (answer, _both(counts, behind)), multiplied(share, chance))


class Meeting:
    """Works out to what talks come where they meet, each of them once for the same things.

    Talks that are equal are one node. A node is the talk with nodes in the places of its parts;
    an ask has behind these how many things are in sight there, since those that it hands have
    their own ones from this number on. A thing is a triple: its node, how many things were in
    sight where it was handed, and those of them that it uses; or a quadruple, the last item being
    its place among the own things, if it is one that is counted. What comes is a dict from pairs
    (answer, counts) to chances.
    """

    def __init__(self, many):
        self.unasked = (0,) * many
        self.nodes = []
        self.used = []
        self.node_numbers = {}
        self.things = []
        self.thing_numbers = {}
        self.known = {}

    def take_in(self, talk, kinds):
        """The number of the node of a talk with things of these kinds in sight."""
        inner = []
        for part, own in _inner_talks(talk, kinds):
            inner.append(self.take_in(part, kinds + own))
        if talk[0] == "draw":
            shares = [share for share, _ in talk[1]]
            talk = ("draw", tuple(list(zip(shares, inner))))
        elif talk[0] == "ask":
            handed = len(talk[2])
            talk = ("ask", talk[1], tuple(inner[:handed]), tuple(inner[handed:]), len(kinds))
        return self._node(talk, inner)

    def _node(self, told, inner):
        """The number of a node with these nodes directly in it."""
        if told not in self.node_numbers:
            self.node_numbers[told] = len(self.nodes)
            self.nodes.append(told)
            found = [thing for node in inner for thing in self.used[node]]
            if told[0] == "ask":
                # What is handed has its own things behind those in sight.
                found = [told[1]] + [thing for thing in found if thing < told[4]]
            self.used.append(tuple(sorted(set(found))))
        return self.node_numbers[told]

    def thing(self, told):
        """The number of a thing."""
        if told not in self.thing_numbers:
            self.thing_numbers[told] = len(self.things)
            self.things.append(told)
        return self.thing_numbers[told]

    def outcome(self, node, things):
        """What comes of a node whose own things are these."""
        wanted = (node, tuple([things[thing] for thing in self.used[node]]))
        waiting = [wanted]
        while waiting:
            key = waiting[-1]
            ahead = None if key in self.known else self._first_unknown(key)
            if ahead is None:
                waiting.pop()
            else:
                waiting.append(ahead)
        return self.known[wanted]

    def _first_unknown(self, key):
        """The key of what has to be known first; None if nothing has, and key is known now."""
        node, things = key
        names = {thing: worth for thing, worth in zip(self.used[node], things)}
        talk = self.nodes[node]
        if talk[0] == "ask":
            return self._ask(key, talk, names)
        if talk[0] == "draw":
            return self._draw(key, talk[1], names)
        answer = talk[1] if talk[0] == "answer" else None
        self.known[key] = {(answer, self.unasked): ALL}
        return None

    def _key(self, node, names):
        return (node, tuple([names[thing] for thing in self.used[node]]))

    def _draw(self, key, rows, names):
        found = {}
        for share, node in rows:
            way = self._key(node, names)
            if way not in self.known:
                return way
            _put_all(found, self.known[way], self.unasked, share)
        left = subtracted(ALL, total([share for share, _ in rows]))
        if left != NOTHING:
            _put(found, (None, self.unasked), left)
        self.known[key] = found
        return None

    def _ask(self, key, talk, names):
        _, asked, handed, rows, inside = talk
        own = [self._handed(node, inside, names) for node in handed]
        first = self._entered(self.things[names[asked]], own)
        if first not in self.known:
            return first
        counted = self._counted(names[asked])
        found = {}
        for (answer, counts), chance in self.known[first].items():
            ahead = _both(counts, counted)
            if answer is None:
                _put(found, (None, ahead), chance)
                continue
            way = self._key(rows[answer], names)
            if way not in self.known:
                return way
            _put_all(found, self.known[way], ahead, chance)
        self.known[key] = found
        return None

    def _handed(self, node, inside, names):
        """The thing that is handed with this node, where names stand for so many things."""
        return self.thing((node, inside, tuple([names[thing] for thing in self.used[node] if thing < inside])))

    def _entered(self, told, own):
        """The key of a thing that is handed its own things."""
        node, inside, around = told[:3]
        return (node, around + tuple([own[thing - inside] for thing in self.used[node] if thing >= inside]))

    def _counted(self, thing):
        """How often each of those that are counted is asked by an ask of this thing."""
        if len(self.things[thing]) == 3:
            return self.unasked
        found = list(self.unasked)
        found[self.things[thing][3]] = 1
        return tuple(found)


def _check(kind, talk, talks):
    check_kind(kind)
    check_talk(kind, talk)
    kinds = arguments_and_answer(kind)[0]
    if not is_list(talks) or len(talks) != len(kinds):
        raise BadTalks("no list of as many talks as the kind has arguments")
    if not all([is_closed_talk(own, part) for own, part in zip(kinds, talks)]):
        raise BadTalks("no list of closed talks of the kinds")


def _outcome(kind, talk, talks, is_counting):
    kinds = arguments_and_answer(kind)[0]
    meeting = Meeting(len(kinds) if is_counting else 0)
    things = []
    for at, (own, part) in enumerate(zip(kinds, talks)):
        told = (meeting.take_in(part, arguments_and_answer(own)[0]), 0, ())
        things.append(meeting.thing(told + (at,) if is_counting else told))
    return meeting.outcome(meeting.take_in(talk, kinds), things)


def met(kind, talk, talks):
    """The chances of the numbers to which a talk comes whose own things are those of talks."""
    _check(kind, talk, talks)
    found = _outcome(kind, talk, talks, False)
    return tuple([found.get((number, ()), NOTHING) for number in range(arguments_and_answer(kind)[1])])


def asks(kind, talk, talks):
    """The list of triples (answer, counts, weight): how often the talk's own things are asked."""
    _check(kind, talk, talks)
    found = _outcome(kind, talk, talks, True)
    k = arguments_and_answer(kind)[1]
    # The number behind all others stands for no answer, which comes last.
    rows = sorted([(k if answer is None else answer, counts) for answer, counts in found])
    told = [(None if answer == k else answer, counts) for answer, counts in rows]
    return [(answer, counts, found[(answer, counts)]) for answer, counts in told]
