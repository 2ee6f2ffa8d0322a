"""The refusals: one class each, all right under TreeError."""


class TreeError(ValueError):
    pass


class NoNode(TreeError):
    pass


class Known(TreeError):
    pass


class NotFolder(TreeError):
    pass


class NotFile(TreeError):
    pass


class Inside(TreeError):
    pass


class Taken(TreeError):
    pass


class NoMatch(TreeError):
    pass


class NoMark(TreeError):
    pass


class NoReader(TreeError):
    pass


class NoText(TreeError):
    pass


class NoTag(TreeError):
    pass


class NoBack(TreeError):
    pass
