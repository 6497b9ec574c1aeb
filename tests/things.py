"""What several tests share: things of other kinds, and the refusals of the document."""

import evenhall.errors as errors
from evenhall.chart import Chart
from evenhall.journal import Journal

REFUSALS = (
    "BadName", "BadNote", "BadDay", "BadMonth", "BadCount", "BadAmount", "BadCurrency", "BadShare", "BadPath",
    "BadKind", "NoAccount", "Twice", "NotOpen", "HasBelow", "BadRate", "NoRate", "BadRow", "Uneven", "NoBooking",
    "Undone", "Closed", "NotNext", "NoBudget", "NoOrder", "BadOrder",
)


def no_texts():
    return [None, True, False, 0, 1, -1, 10 ** 5000, 1.0, float("nan"), b"", b"abc", [], ["a"], ["a", "b", "c"],
            ("A", "B", "C"), {}, {"a": 1}, {"a"}, object(), str, len, ValueError("abc")]


def no_wholes():
    return [None, True, False, 0.0, 1.0, float("nan"), float("inf"), "", "0", "1", "one", b"1", [], [1], (1,), {},
            {1: 1}, {1}, object(), int, len]


def need_refusal(case, name, call, *handed):
    """The call is refused with just the class of that name, which HouseError and ValueError take too."""
    try:
        told = call(*handed)
    except errors.HouseError as refusal:
        taken_by = [other for other in REFUSALS if isinstance(refusal, getattr(errors, other))]
        case.assertEqual(taken_by, [name], short(handed))
        case.assertIsInstance(refusal, ValueError)
    else:
        case.fail("%s told %s for %s, %s was asked for" % (call.__name__, short(told), short(handed), name))


def short(thing):
    """A text for messages, also of numbers that are too long for repr."""
    try:
        return repr(thing)[:200]
    except ValueError:
        return "(too long to show)"


def with_faults(good, *faults):
    """The good arguments, with those of each fault (a dict by places) in their stead."""
    handed = list(good)
    for fault in faults:
        for place, thing in fault.items():
            handed[place] = thing
    return handed


def need_order(case, call, good, faults):
    """Each fault is refused by its name, and of two at once, where they can be, the one that is told first.

    Faults are pairs of a refusal's name and a dict of wrong arguments by their places, in the document's order.
    """
    for at, (name, fault) in enumerate(faults):
        need_refusal(case, name, call, *with_faults(good, fault))
        for later_name, later in faults[at + 1:]:
            if later_name != name and not set(fault) & set(later):
                need_refusal(case, name, call, *with_faults(good, fault, later))


def hall(*accounts):
    """A chart with a top of each kind, called like it; accounts are tuples of a path, a currency (or None) and a day."""
    chart = Chart()
    for kind in ("have", "owe", "own", "gain", "cost"):
        chart.add_top(kind, kind)
    for account in accounts:
        chart.add(*account)
    return chart


def journal_of(*bookings):
    """A journal of tuples: a day, then rows."""
    journal = Journal()
    for day, *rows in bookings:
        journal.put(day, "", rows, None)
    return journal


def chart_picture(chart):
    return [(path, chart.kind_of(path), chart.currency_of(path), chart.span_of(path)) for path in chart.accounts()]
