"""The errors of the package."""


class FileError(ValueError):
    """The class above all errors of the package."""


class InvalidFormat(FileError):
    """A value is no format."""


class InvalidFormats(FileError):
    """A value is no list (for a stream: no tuple) of formats of one base."""


class InvalidFile(FileError):
    """A value is no file of the format."""


class InvalidContent(FileError):
    """A value is no content of the format."""


class InvalidLength(FileError):
    """A value is no integer from 0 on."""


class InvalidIndex(FileError):
    """A value is no index that may be asked for."""


class InvalidText(FileError):
    """A value is no text that can be parsed."""


class InvalidSign(FileError):
    """A value is no sign."""


class InvalidMark(FileError):
    """A value is no mark."""


class InvalidNumber(FileError):
    """A value is no number that may be asked for."""


class OtherBase(FileError):
    """The formats have unlike bases."""


class NothingToUndo(FileError):
    """There is no call that could be taken back."""


class Doomed(FileError):
    """No file that begins so is read by all formats."""


class TooLong(FileError):
    """There would be more signs than the greatest number."""


class Refused(FileError):
    """A file is not read: at this index, for this reason."""

    def __init__(self, index, word):
        self.index = index
        self.word = word


class HasCommon(FileError):
    """Two formats read this file both, the least one."""

    def __init__(self, file):
        self.file = file


class HasStubborn(FileError):
    """This file, the least one, cannot be washed."""

    def __init__(self, file):
        self.file = file
