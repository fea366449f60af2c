"""All refusals of the program, each straight under EchoError."""


class EchoError(ArithmeticError):
    """Any refusal."""


class NoFraction(EchoError):
    """What was handed in makes no fraction."""


class NoMatrix(EchoError):
    """What was handed in is no matrix, or does not fit."""


class NoSeries(EchoError):
    """What was handed in is no series, or does not fit one."""


class BadState(EchoError):
    """What was handed in is no state of the net."""


class NoWords(EchoError):
    """What was handed in are no words to look at, or no such most."""


class NoState(EchoError):
    """What was handed in is none of the states, rows or rings asked of."""


class NoChoice(EchoError):
    """What was handed in leaves nothing to choose from."""


class NoLine(EchoError):
    """What was handed in is no line that a desk knows."""


class BadForm(EchoError):
    """A part of a form is amiss: the first one."""

    def __init__(self, part):
        super().__init__(f"a form's {part} is amiss")
        self.part = part


class Unfit(EchoError):
    """The thing at this place is no word of the form."""

    def __init__(self, at=0):
        super().__init__(f"no word of the form at place {at}")
        self.at = at


class NotStill(EchoError):
    """A matrix is not still, as the paper shows."""

    def __init__(self, paper):
        # The paper stays out of the text: its numbers may be too long for Python to write.
        super().__init__("the matrix is not still")
        self.paper = paper


class TooSlow(EchoError):
    """It would take more steps than this many."""

    def __init__(self, many):
        super().__init__(f"more than {many} steps")
        self.many = many


class BadNet(EchoError):
    """A part of a net is amiss: the first one, and the place in it."""

    def __init__(self, part, at=None):
        super().__init__(f"a net's {part} are amiss at {at}")
        self.part = part
        self.at = at


class NoTurn(EchoError):
    """A machine has made only this many turns."""

    def __init__(self, many):
        super().__init__(f"only {many} turns were made")
        self.many = many


class TooMany(EchoError):
    """More would come than this many."""

    def __init__(self, many):
        super().__init__(f"more than {many} would come")
        self.many = many


class NotFree(EchoError):
    """This keep row has a form with a width."""

    def __init__(self, row):
        super().__init__(f"row {row} keeps by a form with a width")
        self.row = row


class NoName(EchoError):
    """Nothing stands by this name."""

    def __init__(self, name):
        super().__init__(f"nothing stands by the name {name}")
        self.name = name


class NoText(EchoError):
    """A text cannot be read at this line, 0 where it has no lines to tell."""

    def __init__(self, line=0):
        super().__init__(f"the text cannot be read at line {line}")
        self.line = line
