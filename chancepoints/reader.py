"""Reads the text of an expression sign by sign, and no further than something can come of it.

What is begun stands in frames, one in the other: tuples (sort, pattern, names, level, parts).
The sort tells whether it is an expression ("e") or a kind ("k") in brackets, or the text as a
whole ("t"); the pattern, which kinds it may have, or be; names is a dict from the names that
stand for something in it to their kinds; parts are what was read of it so far, its word first,
an expression as the pair of it and its kind.

What is wanted next is a slot: a tuple of its word and of what is told of it.
- ("e", pattern, names, level): an expression. ("k", pattern): a kind. ("new",): a name.
- ("words", words): one of these words, standing for itself. ("digits", numbers): one of these.
- ("weight", left, may_end): a weight up to what is left, or the end of the brackets, if it may.
- ("close",): the end of the brackets. ("done",): nothing any more.
"""

from chancepoints.kinds import MOST_NUMBERS
from chancepoints.nodes import LETTERS, MOST_LETTERS, MOST_LEVELS, MOST_NODES, is_plain_name
from chancepoints.shares import rest_of_weight, told_weight
from chancepoints.wanted import ANY, argument, behind, called, fits, is_of_functions, just, numbers_of
from chancepoints.weights import ALL, added, total

BLANKS = " \n"
CLOSE = ("close",)
DONE = ("done",)
NEW = ("new",)


def _left_of(weights):
    top, bottom = total(weights)
    return added(ALL, (-top, bottom))


def _heads(pattern, level, nodes):
    """The words with which an expression in brackets may begin, nodes being told for all so far."""
    found = ["never"]
    if numbers_of(pattern):
        found.extend(["number", "draw"])
    if level < MOST_LEVELS:
        if nodes + 1 <= MOST_NODES and is_of_functions(pattern):
            found.append("fun")
        if nodes + 2 <= MOST_NODES:
            found.extend(["case", "take"])
            if called(pattern) is not None:
                found.append("call")
    return tuple(found)


def _number_slot(pattern, parts):
    numbers = numbers_of(pattern)
    if len(parts) == 1:
        return ("digits", tuple(range(numbers[-1])))
    if len(parts) == 2:
        return ("digits", tuple([k for k in numbers if k > parts[1]]))
    return CLOSE


def _draw_slot(pattern, weights):
    numbers = numbers_of(pattern)
    if len(weights) == numbers[-1]:
        return CLOSE
    return ("weight", _left_of(weights), len(weights) in numbers)


def _fun_slot(pattern, names, level, parts):
    if len(parts) == 1:
        return NEW
    if len(parts) == 2:
        return ("k", argument(pattern))
    if len(parts) == 3:
        return ("e", behind(pattern, parts[2]), {**names, parts[1]: parts[2]}, level + 1)
    return CLOSE


def _call_slot(pattern, names, level, parts):
    if len(parts) == 1:
        return ("e", called(pattern), names, level + 1)
    if len(parts) == 2:
        return ("e", just(parts[1][1][1]), names, level + 1)
    return CLOSE


def _case_slot(pattern, names, level, parts, nodes):
    if len(parts) == 1:
        # Two of its parts are counted among the nodes already.
        return ("digits", tuple(range(1, min(MOST_NUMBERS, MOST_NODES - nodes + 1) + 1)))
    if len(parts) == 2:
        return ("e", just(("num", parts[1])), names, level + 1)
    if len(parts) == 3:
        return ("e", pattern, names, level + 1)
    if len(parts) < 3 + parts[1]:
        return ("e", just(parts[3][1]), names, level + 1)
    return CLOSE


def _take_slot(pattern, names, level, parts):
    if len(parts) == 1:
        return NEW
    if len(parts) == 2:
        return ("digits", tuple(range(1, MOST_NUMBERS + 1)))
    if len(parts) == 3:
        return ("e", just(("num", parts[2])), names, level + 1)
    if len(parts) == 4:
        return ("e", pattern, {**names, parts[1]: ("num", parts[2])}, level + 1)
    return CLOSE


def _kind_slot(pattern, parts):
    if not parts:
        return ("words", ("to",))
    if len(parts) == 1:
        return ("k", argument(pattern))
    if len(parts) == 2:
        return ("k", behind(pattern, parts[1]))
    return CLOSE


def _expression_slot(frame, nodes):
    _, pattern, names, level, parts = frame
    if not parts:
        return ("words", _heads(pattern, level, nodes))
    if parts[0] == "number":
        return _number_slot(pattern, parts)
    if parts[0] == "draw":
        return _draw_slot(pattern, parts[1:])
    if parts[0] == "fun":
        return _fun_slot(pattern, names, level, parts)
    if parts[0] == "call":
        return _call_slot(pattern, names, level, parts)
    if parts[0] == "case":
        return _case_slot(pattern, names, level, parts, nodes)
    if parts[0] == "take":
        return _take_slot(pattern, names, level, parts)
    return ("k", pattern) if len(parts) == 1 else CLOSE


def _slot_of(frame, nodes):
    """What is wanted next in the innermost frame."""
    if frame[0] == "e":
        return _expression_slot(frame, nodes)
    if frame[0] == "k":
        return _kind_slot(frame[1], frame[4])
    return DONE if frame[4] else ("e", frame[1], frame[2], 1)


def _closed(frame):
    """What a frame that is read to its end stands for."""
    sort, _, _, _, parts = frame
    if sort == "k":
        return ("to", parts[1], parts[2])
    word = parts[0]
    if word == "number":
        return (parts, ("num", parts[2]))
    if word == "draw":
        return (("draw", parts[1:]), ("num", len(parts) - 1))
    if word == "never":
        return (parts, parts[1])
    if word == "fun":
        body, kind = parts[3]
        return (("fun", parts[1], parts[2], body), ("to", parts[2], kind))
    if word == "call":
        return (("call", parts[1][0], parts[2][0]), parts[1][1][2])
    if word == "case":
        ways = tuple([part for part, _ in parts[3:]])
        return (("case", parts[2][0], ways), parts[3][1])
    return (("take", parts[1], parts[3][0], parts[4][0]), parts[4][1])


def _value_of(slot, word):
    """What a word stands for in a slot; None if it has no place there."""
    sort = slot[0]
    if sort == "e":
        kind = slot[2].get(word)
        return None if kind is None or not fits(slot[1], kind) else (("name", word), kind)
    if sort == "k":
        found = [("num", k) for k in numbers_of(slot[1]) if str(k) == word]
    elif sort == "digits":
        found = [number for number in slot[1] if str(number) == word]
    elif sort == "words":
        found = [told for told in slot[1] if told == word]
    elif sort == "new":
        found = [word] if is_plain_name(word) else []
    else:
        return told_weight(word, slot[1]) if sort == "weight" else None
    return found[0] if found else None


def _rest_of_new(word):
    """What may stand behind a begun name that is new."""
    if is_plain_name(word):
        return ""
    if len(word) >= MOST_LETTERS or not all([letter in LETTERS for letter in word]):
        return None
    return "x"


def _rest_of_name(slot, word):
    """What may stand behind a begun name of a slot for an expression."""
    _, pattern, names, _ = slot
    for name in names:
        if name.startswith(word) and fits(pattern, names[name]):
            return name[len(word):]
    return None


def _rest_of(slot, word):
    """What may stand behind a begun word in a slot; None if nothing that has a place there comes."""
    sort = slot[0]
    if sort == "weight":
        return rest_of_weight(word, slot[1])
    if sort == "new":
        return _rest_of_new(word)
    if sort == "e":
        return _rest_of_name(slot, word)
    told = []
    if sort == "k":
        told = numbers_of(slot[1])
    elif sort in ("words", "digits"):
        told = slot[1]
    for part in told:
        if str(part).startswith(word):
            return str(part)[len(word):]
    return None


# How many nodes more than itself an expression has at least, by its word.
PARTS = {"fun": 1, "call": 2, "case": 2, "take": 2}


class Reader:
    """What was read so far: frames, how many nodes there will be at least, and a begun word.

    A reader is never changed: behind each sign there is another one.
    """

    def __init__(self, frames, nodes, slot, word):
        self.frames = frames
        self.nodes = nodes
        self.slot = slot
        self.word = word

    def after(self, sign):
        """The reader behind one more sign; None if nothing can come of it."""
        if sign in BLANKS:
            return self._behind_word() if self.word else self
        if sign in "()":
            made = self._behind_word() if self.word else self
            if made is None:
                return None
            return made._opened() if sign == "(" else made._shut()
        word = self.word + sign
        if _rest_of(self.slot, word) is None:
            return None
        return Reader(self.frames, self.nodes, self.slot, word)

    def _behind_word(self):
        value = _value_of(self.slot, self.word)
        if value is None:
            return None
        return self._with_part(self.frames, value)

    def _with_part(self, frames, part):
        """The reader in which the innermost of these frames has one more part."""
        sort, pattern, names, level, parts = frames[-1]
        nodes = self.nodes
        if sort == "e" and not parts:
            nodes += PARTS.get(part, 0)
        if sort == "e" and len(parts) == 1 and parts[0] == "case":
            nodes += part - 1
        return _at_slot(frames[:-1] + ((sort, pattern, names, level, parts + (part,)),), nodes)

    def _opened(self):
        if self.slot[0] == "e":
            _, pattern, names, level = self.slot
            return _at_slot(self.frames + (("e", pattern, names, level, ()),), self.nodes)
        if self.slot[0] == "k" and is_of_functions(self.slot[1]):
            return _at_slot(self.frames + (("k", self.slot[1], {}, 0, ()),), self.nodes)
        return None

    def _shut(self):
        if self.slot != CLOSE and not (self.slot[0] == "weight" and self.slot[2]):
            return None
        return self._with_part(self.frames[:-1], _closed(self.frames[-1]))

    def told(self):
        """The pair of the expression and its kind, if the text may end here; otherwise None."""
        made = self._behind_word() if self.word else self
        if made is None or made.slot != DONE:
            return None
        return made.frames[0][4][0]

    def next_text(self):
        """What may stand next on the way to a right text; it is not at its end."""
        rest = _rest_of(self.slot, self.word)
        if rest and self.word:
            return rest
        if self.word:
            return ")" if self._behind_word().slot == CLOSE else " "
        sort = self.slot[0]
        if sort == "close" or sort == "weight" and self.slot[2]:
            return ")"
        if sort == "e":
            return "("
        if sort == "words" and "never" in self.slot[1]:
            return "never"
        if sort == "k" and rest is None:
            return "("
        return rest


def _at_slot(frames, nodes):
    """The reader with these frames and no begun word."""
    return Reader(frames, nodes, _slot_of(frames[-1], nodes), "")


def reader_for(names, kind):
    """The reader ahead of a text for a dict of names and a kind, or any kind for None."""
    pattern = ANY if kind is None else just(kind)
    return _at_slot((("t", pattern, names, 0, ()),), 1)


def read_far(text, names, kind):
    """The pair of the reader behind the longest beginning of a text, and its length."""
    reader = reader_for(names, kind)
    for at, sign in enumerate(text):
        found = reader.after(sign)
        if found is None:
            return reader, at
        reader = found
    return reader, len(text)
