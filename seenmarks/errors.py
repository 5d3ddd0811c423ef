"""The errors of seenmarks. Each one keeps the very objects that it is created with."""


class SeenError(ValueError):
    """An error of seenmarks."""


class BadField(SeenError):
    """The item at this index is not a field that may stand there."""

    def __init__(self, index):
        self.index = index


class UnknownField(SeenError):
    """There is no such field."""

    def __init__(self, field):
        self.field = field


class BadWord(SeenError):
    """This is not a word."""

    def __init__(self, word):
        self.word = word


class BadKind(SeenError):
    """The item at this index is not a kind that may stand there."""

    def __init__(self, index):
        self.index = index


class UnknownKind(SeenError):
    """There is no kind with this name."""

    def __init__(self, name):
        self.name = name


class BadResource(SeenError):
    """This is not a resource."""

    def __init__(self, resource):
        self.resource = resource


class BadCount(SeenError):
    """This is not a count."""

    def __init__(self, count):
        self.count = count


class BadTag(SeenError):
    """This is not a tag."""

    def __init__(self, thing):
        self.thing = thing


class BadValue(SeenError):
    """This is not an integer."""

    def __init__(self, value):
        self.value = value


class NoWrite(SeenError):
    """There is no write of this field of this resource."""

    def __init__(self, resource, field):
        self.resource = resource
        self.field = field


class Rejected(SeenError):
    """The update with this number was rejected, as these tags are not current."""

    def __init__(self, number, stale):
        self.number = number
        self.stale = stale


class Unlabelled(SeenError):
    """The update with this number had no label."""

    def __init__(self, number):
        self.number = number


class BadFlag(SeenError):
    """This is neither True nor False."""

    def __init__(self, flag):
        self.flag = flag


class Offline(SeenError):
    """The cache is offline."""


class BadTemplate(SeenError):
    """The variable at this index is wrong, for this reason."""

    def __init__(self, index, reason):
        self.index = index
        self.reason = reason


class BadCopies(SeenError):
    """The item at this index is not a copy that may stand there."""

    def __init__(self, index):
        self.index = index


class BadValues(SeenError):
    """This is not a list of an integer for each written field."""


class BadCatalog(SeenError):
    """The template at this index is wrong, for this reason."""

    def __init__(self, index, reason):
        self.index = index
        self.reason = reason


class UnknownTemplate(SeenError):
    """There is no template with this name."""

    def __init__(self, name):
        self.name = name


class BadVariable(SeenError):
    """This is not the number of a variable."""

    def __init__(self, variable):
        self.variable = variable


class BadCover(SeenError):
    """This is not a field set that may be the cover there."""


class BadStep(SeenError):
    """The thing at this index is not a step."""

    def __init__(self, index):
        self.index = index


class BadText(SeenError):
    """The line with this number, from 1 on, cannot stand there."""

    def __init__(self, line):
        self.line = line
