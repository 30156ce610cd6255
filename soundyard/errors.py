"""The errors that the program raises."""


class YardError(ValueError):
    """The base class of all errors of the program."""


class Repeated(YardError):
    """A name is given twice."""

    def __init__(self, name):
        super().__init__(f"the name {name} is given twice")
        self.name = name


class Unknown(YardError):
    """A name is not known."""

    def __init__(self, name):
        super().__init__(f"the name {name} is not known")
        self.name = name


class NoStep(YardError):
    """No step leads from one standing to another."""

    def __init__(self, before, after):
        super().__init__(f"no step leads from {before} to {after}")
        self.before = before
        self.after = after


class BadCount(YardError):
    """A count is too small."""

    def __init__(self, count):
        # The text leaves the count out: Python refuses to write very long integers in digits.
        super().__init__("a count is too small")
        self.count = count


class Lacking(YardError):
    """There are too few copies."""

    def __init__(self, kind, standing):
        super().__init__(f"there are too few copies of {kind} at {standing}")
        self.kind = kind
        self.standing = standing


class Shut(YardError):
    """No present standing gives a door."""

    def __init__(self, door):
        super().__init__(f"no present standing gives the door {door}")
        self.door = door


class Unmet(YardError):
    """A need is not met."""

    def __init__(self, kind, standing, door):
        super().__init__(f"{kind} at {standing} needs the door {door}, which is not open")
        self.kind = kind
        self.standing = standing
        self.door = door


class Never(YardError):
    """A wished yard cannot be brought about."""

    def __init__(self, closed):
        super().__init__("the wished yard cannot be brought about")
        self.closed = list(closed)
