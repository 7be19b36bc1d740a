"""Errors: every failure of the server is a TableError, which is a ValueError."""


class TableError(ValueError):
    """The base of all errors of this package."""


class TextError(TableError):
    """A statement's text is invalid."""


class NameFault(TableError):
    """A table, column or index is unknown, ambiguous or declared twice."""


class KindFault(TableError):
    """An expression combines values that do not fit."""


class ConstraintFault(TableError):
    """A change would break a constraint of a table."""


class ConflictFault(TableError):
    """A transaction cannot commit, because another one changed what it read."""


class StateFault(TableError):
    """A statement does not fit the state of its session."""


class PageFault(TableError):
    """A page is invalid or too small."""


class RecordFault(TableError):
    """The bytes of a record or key are invalid."""


class LogFault(TableError):
    """The log is invalid."""


class DiskFault(TableError):
    """The disk has crashed, or a block does not exist."""


class TreeFault(TableError):
    """A tree's pages are not in order."""


class PlanFault(TableError):
    """A plan is invalid."""
