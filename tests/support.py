"""What the tests of several modules share."""


def fault(function, *arguments):
    """The name of the class and the fields of the error that a call raises, or None if it raises none."""
    try:
        function(*arguments)
    except ValueError as error:
        return (type(error).__name__, vars(error))
    return None


def malformed(at):
    return ("Malformed", {"at": at})


def unbounded(name):
    return ("Unbounded", {"name": name})
