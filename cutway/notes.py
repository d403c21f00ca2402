"""Notes: records written as texts, a line for each hand."""

from cutway.errors import NoNote
from cutway.records import Record

MARKS = {"send": "!", "take": "?"}
KINDS = {"!": "send", "?": "take"}
FIGURES = "0123456789"
MOST_LINES = 4
MOST_EVENTS = 6
GREATEST_LETTER = 99
GREATEST_VALUE = 1000000000


def shown(record):
    return "\n".join([shown_row(row) for row in record.rows])


def shown_row(row):
    return " ".join([shown_event(event) for event in row])


def shown_event(event):
    letter = event[1]
    value = event[2]
    if event[0] == "own":
        return f"={value}"
    mark = MARKS[event[0]]
    return f"{mark}{letter}={value}"


def read(note):
    lines = note.split("\n")
    if len(lines) > MOST_LINES:
        raise NoNote("too many lines")
    return Record([read_row(line) for line in lines])


def read_row(line):
    # Splitting an empty line would give one empty word.
    if line == "":
        return []
    words = line.split(" ")
    if len(words) > MOST_EVENTS:
        raise NoNote(f"too many events in the line {line!r}")
    return [read_event(word) for word in words]


def read_event(word):
    # A word without its `=` has nothing behind it, and that is no value.
    parts = word.partition("=")
    value = read_value(parts[2])
    doing = parts[0]
    if doing == "":
        return ("own", 0, value)
    if doing[0] not in KINDS:
        raise NoNote(f"no doing is written like {word!r}")
    return (KINDS[doing[0]], read_number(doing[1:], GREATEST_LETTER), value)


def read_value(text):
    if not text.startswith("-"):
        return read_number(text, GREATEST_VALUE)
    number = read_number(text[1:], GREATEST_VALUE)
    if number == 0:
        raise NoNote("nought is written with a minus")
    return -number


def read_number(text, greatest):
    # Python's own reading takes blanks, a plus, noughts ahead and figures of other scripts too.
    if text == "" or not all([sign in FIGURES for sign in text]):
        raise NoNote(f"no number is written like {text!r}")
    if text[0] == "0" and text != "0":
        raise NoNote(f"a nought ahead of other figures in {text!r}")
    # Python refuses to read very many figures, so their count is asked first.
    if len(text) > len(str(greatest)) or int(text) > greatest:
        raise NoNote(f"a number beyond its bound: {text!r}")
    return int(text)
