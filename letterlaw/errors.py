"""The refusals of the program, each straight under LetterError."""


class LetterError(ValueError):
    pass


class NoLetters(LetterError):
    pass


class NoWord(LetterError):
    def __init__(self, place):
        self.place = place


class NoPact(LetterError):
    pass


class NoStep(LetterError):
    pass


class NoOrder(LetterError):
    pass


class NoUse(LetterError):
    def __init__(self, at):
        self.at = at


class NotTurned(LetterError):
    def __init__(self, number):
        self.number = number


class TooFar(LetterError):
    pass


class NoWorld(LetterError):
    pass


class TooMany(LetterError):
    pass


class NoRow(LetterError):
    pass
