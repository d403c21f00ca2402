"""The refusals, each straight under RecordError."""


class RecordError(ValueError):
    pass


class BadLetter(RecordError):
    pass


class Ring(RecordError):
    def __init__(self, events):
        RecordError.__init__(self, "the events lead round")
        self.events = list(events)


class NoEvent(RecordError):
    pass


class NoCut(RecordError):
    pass


class NoNote(RecordError):
    pass
