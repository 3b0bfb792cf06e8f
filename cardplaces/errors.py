"""What is refused, by name."""


class BookError(ValueError):
    pass


class NoPlace(BookError):
    pass


class NoPane(BookError):
    pass


class Taken(BookError):
    pass


class Round(BookError):
    pass


class NotAsked(BookError):
    pass


class NoText(BookError):
    pass
