"""What is done to a journal: bookings and their undoings."""

from evenhall.bookings import need_rows, turned
from evenhall.days import is_day
from evenhall.errors import BadDay, BadNote, Closed, NotOpen, Undone
from evenhall.words import is_note


def need_note_and_gate(gate, day, note):
    if not is_note(note):
        raise BadNote("this is no note")
    if not gate.lets(day):
        raise Closed("the month is closed")


def book(chart, gate, journal, day, note, rows):
    if not is_day(day):
        raise BadDay("this is no day")
    need_note_and_gate(gate, day, note)
    need_rows(chart, day, rows)
    return journal.put(day, note, rows, None)


def undo(chart, gate, journal, number, day, note):
    booking = journal.booking(number)
    if booking[4] is not None or journal.undone_by(number) is not None:
        raise Undone("the booking is undone, or undoes one")
    if not is_day(day) or day < booking[1]:
        raise BadDay("this is no day from the booking's on")
    need_note_and_gate(gate, day, note)
    if not all([chart.is_open(row[0], day) for row in booking[3]]):
        raise NotOpen("an account of the booking isn't open on the day")
    return journal.put(day, note, turned(booking[3]), number)
