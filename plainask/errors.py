"""The errors that the program raises, one class for each kind of failure."""


class AskError(ValueError):
    """The base class of all errors that the program raises."""


class BadRule(AskError):
    """A rule is invalid; `part` is "worths" or "table"."""

    def __init__(self, part):
        super().__init__(f"the part {part} of the rule is invalid")
        self.part = part


class BadBox(AskError):
    """A box is invalid, or it does not suit the rule."""


class BadTree(AskError):
    """The rows of a tree are invalid at the place to which `path` leads."""

    def __init__(self, path):
        super().__init__(f"the rows are invalid at the path {path}")
        self.path = tuple(path)


class BadAnswer(AskError):
    """An answer is refused at the place to which `path` leads."""

    def __init__(self, path):
        super().__init__(f"an answer is refused at the path {path}")
        self.path = tuple(path)


class BadTurn(AskError):
    """A turn is refused because of the answer at `index`."""

    def __init__(self, index):
        super().__init__(f"the answer at index {index} of the turn is refused")
        self.index = index


class BadRow(AskError):
    """A text is refused because of the row with the number `row`."""

    def __init__(self, row):
        super().__init__(f"row {row} of the text is refused")
        self.row = row
