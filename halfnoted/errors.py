"""The errors that the program raises on purpose."""


class Refused(ValueError):
    """Every error that the program raises on purpose is one of these."""


class Malformed(Refused):
    """A text is not well formed at an index; the index is its length if it ends too early."""

    def __init__(self, at):
        self.at = at


class Unknown(Refused):
    """A name is used that is not bound."""

    def __init__(self, name):
        self.name = name


class Mismatched(Refused):
    """What the expression with a number gives does not fit the place where it stands."""

    def __init__(self, number):
        self.number = number


class Unbounded(Refused):
    """A limit of the program is exceeded."""

    def __init__(self, name):
        self.name = name
