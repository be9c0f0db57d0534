"""The refusals: one error class for each, all straight under TableError."""


class TableError(ValueError):
    pass


class BadKey(TableError):
    pass


class BadValue(TableError):
    pass


class BadWord(TableError):
    pass


class BadElders(TableError):
    pass


class BadText(TableError):
    pass


class BadRow(TableError):
    pass


class Unsaved(TableError):
    pass


class NotRising(TableError):
    def __init__(self, key):
        TableError.__init__(self, key)
        self.key = key


class NoRow(TableError):
    def __init__(self, key):
        TableError.__init__(self, key)
        self.key = key


class Unfit(TableError):
    def __init__(self, key):
        TableError.__init__(self, key)
        self.key = key


class NoColumn(TableError):
    def __init__(self, column):
        TableError.__init__(self, column)
        self.column = column


class ColumnThere(TableError):
    def __init__(self, column):
        TableError.__init__(self, column)
        self.column = column


class NoClash(TableError):
    def __init__(self, key, column):
        TableError.__init__(self, key, column)
        self.key = key
        self.column = column


class NoPage(TableError):
    def __init__(self, number):
        TableError.__init__(self, number)
        self.number = number


class NoMake(TableError):
    def __init__(self, number):
        TableError.__init__(self, number)
        self.number = number


class NotBroken(TableError):
    def __init__(self, number):
        TableError.__init__(self, number)
        self.number = number


class NoName(TableError):
    def __init__(self, word):
        TableError.__init__(self, word)
        self.word = word


class InUse(TableError):
    def __init__(self, word):
        TableError.__init__(self, word)
        self.word = word
