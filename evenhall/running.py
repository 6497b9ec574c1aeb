"""Standing orders run: their days gone through, up to one."""

from evenhall.days import is_day
from evenhall.deeds import book
from evenhall.errors import BadDay, HouseError


def booked(chart, gate, journal, day, terms):
    try:
        return book(chart, gate, journal, day, terms[3], list(terms[4]))
    except HouseError:
        return None


def run(chart, gate, journal, standing, until):
    if not is_day(until):
        raise BadDay("this is no day")
    turns = []
    for name in standing.names():
        turns.extend([(day, name) for day in standing.days(name, until)])
    told = []
    for day, name in sorted(turns):
        told.append((name, day, booked(chart, gate, journal, day, standing.terms(name))))
        standing.step(name)
    return told
