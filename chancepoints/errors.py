"""The errors of the whole package. Those with fields tell what is wrong by them."""


class ChanceError(ValueError):
    """What all errors of this package are."""


class BadBook(ChanceError):
    """A value is no book."""


class BadBottom(ChanceError):
    """A bottom of a grid of weights is none."""


class BadChances(ChanceError):
    """Chances are none."""


class BadCoins(ChanceError):
    """Coins are none, or not as many as there should be."""


class BadExpression(ChanceError):
    """A value is no expression, or what would come is none."""


class BadForm(ChanceError):
    """A value is no form."""


class BadGrid(ChanceError):
    """A value is no multiple of a program's grid."""


class BadKind(ChanceError):
    """A value is no kind, or not the kind that is wanted."""


class BadKinds(ChanceError):
    """A value is no list of kinds."""


class BadLength(ChanceError):
    """A length is none."""


class BadLine(ChanceError):
    """A value is no line."""


class BadManner(ChanceError):
    """A word is none of the three manners."""


class BadMany(ChanceError):
    """A value that tells how many is none."""


class BadMost(ChanceError):
    """A value that tells how many at most is none."""


class BadName(ChanceError):
    """A value is no name, or stands where it may not."""


class BadNames(ChanceError):
    """Names with kinds are none."""


class BadNumber(ChanceError):
    """A number is none, or not within its bounds."""


class BadNumbers(ChanceError):
    """A value is no list of numbers within their bounds."""


class BadPass(ChanceError):
    """A pass is none of the program."""


class BadPath(ChanceError):
    """A path leads to nothing, or not to what is wanted."""


class BadPaths(ChanceError):
    """Paths lead to nothing, or not to what is wanted."""


class BadProgram(ChanceError):
    """A value is no program, or not one of the kind that is wanted."""


class BadSure(ChanceError):
    """A value is neither True nor False."""


class BadSurrounding(ChanceError):
    """A value is no surrounding of the kind."""


class BadTable(ChanceError):
    """A value is no closed table of the kind."""


class BadTables(ChanceError):
    """A value is no list of as many closed tables of the kind."""


class BadTake(ChanceError):
    """A program is no take of a draw."""


class BadTalk(ChanceError):
    """A value is no closed talk of the kind."""


class BadTalks(ChanceError):
    """A value is no list of closed talks of the kinds."""


class BadTape(ChanceError):
    """A value is no tape."""


class BadText(ChanceError):
    """A text is none; it is right up to the place at."""

    def __init__(self, at):
        ChanceError.__init__(self, f"no right text at {at}")
        self.at = at


class BadThing(ChanceError):
    """A place is that of no thing."""


class BadThings(ChanceError):
    """A value is no list of things of the kinds."""


class BadWeight(ChanceError):
    """A value is no weight, or not within its bounds."""


class BadWeights(ChanceError):
    """A value is no list of weights within their bounds."""


class NoChance(ChanceError):
    """What is told has no chance."""


class NoMaker(ChanceError):
    """No program makes what is told."""


class NoName(ChanceError):
    """A name is that of no definition."""

    def __init__(self, name):
        ChanceError.__init__(self, "a name that no definition has")
        self.name = name


class Taken(ChanceError):
    """A name is taken."""

    def __init__(self, name):
        ChanceError.__init__(self, f"{name} is taken")
        self.name = name


class TooMany(ChanceError):
    """There would be more than most."""

    def __init__(self, most):
        ChanceError.__init__(self, f"more than {most}")
        self.most = most


class Used(ChanceError):
    """A definition is used by the one called name."""

    def __init__(self, name):
        ChanceError.__init__(self, f"used by {name}")
        self.name = name
