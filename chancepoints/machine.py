"""The machine that runs code by name, by need or by value, along all branches of a run."""

from chancepoints.errors import TooMany
from chancepoints.weights import ALL, NOTHING, added, multiplied

MANNERS = ("name", "need", "value")
MOST_BRANCHES = 4000
WORDS = ("case", "draw", "grab", "hand", "look", "never", "number", "take")


class Run:
    """A run up to some row, and the chance of what was drawn in it.

    A thing is a number, or a triple (place, sight, note) of where it is run, with what in
    sight, and under which note it is known once it was run (None if it is run anew); or a
    triple (None, v, note) of one of which nothing is known, so that it is asked.
    A frame is a tuple of its word, its places, and the sight and the pile that were there.
    asks tells how often the things came to which numbers, by pairs (v, number).
    """

    def __init__(self, place, sight, pile, chance):
        self.place = place
        self.sight = sight
        self.pile = pile
        self.frames = []
        self.known = {}
        self.asks = {}
        self.chance = chance

    def fork(self, share):
        """A run like this one, behind a draw with this chance."""
        made = Run(self.place, self.sight, self.pile, self.chance)
        made.frames = list(self.frames)
        made.known = {note: self.known[note] for note in self.known}
        made.asks = {ask: self.asks[ask] for ask in self.asks}
        made.draw(share)
        return made

    def ask(self, thing, note, number):
        """Go on behind an ask of a thing that came to number."""
        self.asks[(thing, number)] = self.asks.get((thing, number), 0) + 1
        if note is not None:
            self.known[note] = number

    def point(self):
        """The point of all calls of what was asked."""
        calls = []
        for thing, number in sorted(self.asks):
            calls.extend([(thing, (), number)] * self.asks[(thing, number)])
        return tuple(calls)

    def draw(self, share):
        """Go on behind a draw with this chance."""
        self.chance = multiplied(self.chance, share)

    def wait(self, word, places):
        """Put up a frame; what is run next has an empty pile."""
        self.frames.append((word, places, self.sight, self.pile))
        self.pile = ()


class Machine:
    """Runs a code by a manner, and sums up the chances of its ends and of its rows.

    It is handed things of which nothing is known but to how many numbers each may come. By
    value they are all asked ahead of the run; but nothing depends on when, so each is asked
    when it is looked at, and an end stands for one branch for each way to ask the others.
    """

    def __init__(self, code, manner, k, things):
        self.code = code
        self.manner = manner
        self.things = things
        self.ends = [{} for _ in range(k)]
        self.works = {word: NOTHING for word in WORDS}
        self.branches = 0
        self.notes = 0
        handed = [(None, thing, self.new_note(("num", many))) for thing, many in enumerate(things)]
        self.pending = [Run(0, (), tuple(handed), ALL)]

    def go(self):
        """Run all branches."""
        while self.pending:
            self._go_on(self.pending.pop())

    def _go_on(self, run):
        """Run up to the next draw, never or end; all these rows have one chance."""
        chance = run.chance
        counts = {word: 0 for word in WORDS}
        on = True
        while on:
            row = self.code[run.place]
            counts[row[0]] += 1
            step = STEPS[row[0]]
            on = step(self, run, row)
        for word in WORDS:
            if counts[word] > 0:
                work = multiplied(chance, (counts[word], 1))
                self.works[word] = added(self.works[word], work)

    def count_branches(self, run):
        """Count the branches that end where the run does."""
        many = 1
        if self.manner == "value":
            asked = {thing: True for thing, _ in run.asks}
            for thing, ways in enumerate(self.things):
                many = many if thing in asked else many * ways
        self.branches += many
        if self.branches > MOST_BRANCHES:
            raise TooMany(MOST_BRANCHES)

    def new_note(self, kind):
        """A new note for what is handed as one of this kind; None if it is run anew."""
        if self.manner == "name" or kind[0] != "num":
            return None
        self.notes += 1
        return self.notes

    def go_behind(self, run, number):
        """Go on, later, with a run in which a draw came to number."""
        if self.give(run, number):
            self.pending.append(run)

    def give(self, run, number):
        """Give a number to the newest frame; whether the run goes on."""
        while run.frames:
            word, places, sight, pile = run.frames.pop()
            if word == "know":
                run.known[places] = number
                continue
            run.sight = sight
            run.pile = pile
            _leave_frame(run, word, places, number)
            return True
        self.count_branches(run)
        point = run.point()
        self.ends[number][point] = added(self.ends[number].get(point, NOTHING), run.chance)
        return False


def _leave_frame(run, word, places, number):
    """Let the run go on where the frame of this word says that it does for number."""
    if word == "case":
        run.place = places[number]
        return
    run.place = places
    if word == "take":
        run.sight = run.sight + (number,)
    else:
        run.pile = (number,) + run.pile


def _grab(machine, run, row):
    run.sight = run.sight + (run.pile[0],)
    run.pile = run.pile[1:]
    run.place += 1
    return True


def _hand(machine, run, row):
    _, place, kind = row
    if machine.manner == "value" and kind[0] == "num":
        run.wait("hand", run.place + 1)
        run.place = place
        return True
    run.pile = ((place, run.sight, machine.new_note(kind)),) + run.pile
    run.place += 1
    return True


def _look(machine, run, row):
    thing = run.sight[row[1]]
    if isinstance(thing, int):
        return machine.give(run, thing)
    place, sight, note = thing
    if note in run.known:
        return machine.give(run, run.known[note])
    if place is None:
        return _ask(machine, run, sight, note)
    if note is not None:
        # A number is handed nothing, so no pile has to be kept for it.
        run.wait("know", note)
    run.place = place
    run.sight = sight
    return True


def _ask(machine, run, thing, note):
    for number in range(machine.things[thing]):
        made = run.fork(ALL)
        made.ask(thing, note, number)
        machine.go_behind(made, number)
    return False


def _number(machine, run, row):
    return machine.give(run, row[1])


def _draw(machine, run, row):
    shares = [(number, share) for number, share in enumerate(row[1]) if share[0] > 0]
    for number, share in shares[1:]:
        machine.go_behind(run.fork(share), number)
    if shares:
        # The first one needs no copy of the run, which nothing else has any more.
        run.draw(shares[0][1])
        machine.go_behind(run, shares[0][0])
    return False


def _never(machine, run, row):
    machine.count_branches(run)
    return False


def _wait(machine, run, row):
    run.wait(row[0], row[1])
    run.place += 1
    return True


STEPS = {
    "case": _wait,
    "draw": _draw,
    "grab": _grab,
    "hand": _hand,
    "look": _look,
    "never": _never,
    "number": _number,
    "take": _wait,
}


def machine_of(code, manner, k, things):
    """A machine that has run all branches of a code that comes to one of k numbers.

    things is a list that tells to how many numbers each thing that it is handed may come.
    """
    machine = Machine(code, manner, k, things)
    machine.go()
    return machine
