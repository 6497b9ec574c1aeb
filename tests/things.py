"""What several tests share: things of other kinds, and the refusals of the document."""

import evenhall.errors as errors
from evenhall.chart import Chart
from evenhall.journal import Journal

REFUSALS = (
    "BadName", "BadNote", "BadDay", "BadMonth", "BadCount", "BadAmount", "BadCurrency", "BadShare", "BadPath",
    "BadKind", "NoAccount", "Twice", "NotOpen", "HasBelow", "BadRate", "NoRate", "BadRow", "Uneven", "NoBooking",
    "Undone", "Closed", "NotNext", "NoBudget", "NoOrder", "BadOrder",
)


def no_texts():
    return [None, True, False, 0, 1, -1, 10 ** 5000, 1.0, float("nan"), b"", b"abc", [], ["a"], ["a", "b", "c"],
            ("A", "B", "C"), {}, {"a": 1}, {"a"}, object(), str, len, ValueError("abc")]


def no_wholes():
    return [None, True, False, 0.0, 1.0, float("nan"), float("inf"), "", "0", "1", "one", b"1", [], [1], (1,), {},
            {1: 1}, {1}, object(), int, len]


def need_refusal(case, name, call, *handed):
    """The call is refused with just the class of that name, which HouseError and ValueError take too."""
    try:
        told = call(*handed)
    except errors.HouseError as refusal:
        taken_by = [other for other in REFUSALS if isinstance(refusal, getattr(errors, other))]
        case.assertEqual(taken_by, [name], short(handed))
        case.assertIsInstance(refusal, ValueError)
    else:
        case.fail("%s told %s for %s, %s was asked for" % (call.__name__, short(told), short(handed), name))


def short(thing):
    """A text for messages, also of numbers that are too long for repr."""
    try:
        return repr(thing)[:200]
    except ValueError:
        return "(too long to show)"


def with_faults(good, *faults):
    """The good arguments, with those of each fault (a dict by places) in their stead."""
    handed = list(good)
    for fault in faults:
        for place, thing in fault.items():
            handed[place] = thing
    return handed


def need_order(case, call, good, faults):
    """Each fault is refused by its name, and of two at once, where they can be, the one that is told first.

    Faults are pairs of a refusal's name and a dict of wrong arguments by their places, in the document's order.
    """
    for at, (name, fault) in enumerate(faults):
        need_refusal(case, name, call, *with_faults(good, fault))
        for later_name, later in faults[at + 1:]:
            if later_name != name and not set(fault) & set(later):
                need_refusal(case, name, call, *with_faults(good, fault, later))


def hall(*accounts):
    """A chart with a top of each kind, called like it; accounts are tuples of a path, a currency (or None) and a day."""
    chart = Chart()
    for kind in ("have", "owe", "own", "gain", "cost"):
        chart.add_top(kind, kind)
    for account in accounts:
        chart.add(*account)
    return chart


def journal_of(*bookings):
    """A journal of tuples: a day, then rows."""
    journal = Journal()
    for day, *rows in bookings:
        journal.put(day, "", rows, None)
    return journal


def chart_picture(chart):
    return [(path, chart.kind_of(path), chart.currency_of(path), chart.span_of(path)) for path in chart.accounts()]


# What a house is told, line by line, with the answers to it: a first part that changes it, questions, and the rest.
BEGINNING = [
    ("top have have", ["done"]),
    ("top owe owe", ["done"]),
    ("top own own", ["done"]),
    ("top gain gain", ["done"]),
    ("top cost cost", ["done"]),
    ("add have:bank any 2024-01-01", ["done"]),
    ("add have:bank:giro EUR 2024-01-01", ["done"]),
    ("add have:cash USD 2024-01-15", ["done"]),
    ("add own:kept any 2024-01-01", ["done"]),
    ("add cost:food any 2024-01-01", ["done"]),
    ("add cost:foods any 2024-01-01", ["done"]),
    ("quote 2024-01-01 EUR 2 USD 3", ["done"]),
    ("budget food cost:food EUR 2024-01 2024-03 100 1,1,1", ["done"]),
    ("standing rent 2024-01-31 1 3 cost EUR 40 have:bank:giro EUR -40 | rent", ["done"]),
    ("book 2024-01-10 have:bank:giro EUR 1000 gain EUR -1000 | pay", ["booking 0"]),
    ("book 2024-01-20 cost:food EUR 50 have:bank:giro EUR -50 |", ["booking 1"]),
    ("run 2024-02-29", ["rent 2024-01-31 2", "rent 2024-02-29 3"]),
    ("book 2024-02-10 have:cash USD 30 have:bank USD -30 | lent", ["booking 4"]),
    ("undo 1 2024-02-11 | not | food", ["booking 5"]),
    ("shut have:cash 2025-06-01", ["done"]),
    ("close 2024-01 -", ["2024-01 3", "cost EUR 40", "cost:food EUR 50", "gain EUR -1000", "have:bank:giro EUR 910"]),
]
QUESTIONS = [
    ("accounts", ["cost cost any 2000-01-01 open", "cost:food cost any 2024-01-01 open",
                  "cost:foods cost any 2024-01-01 open", "gain gain any 2000-01-01 open", "have have any 2000-01-01 open",
                  "have:bank have any 2024-01-01 open", "have:bank:giro have EUR 2024-01-01 open",
                  "have:cash have USD 2024-01-15 2025-06-01", "owe owe any 2000-01-01 open", "own own any 2000-01-01 open",
                  "own:kept own any 2024-01-01 open"]),
    ("report 2024-02-01 2024-02-29", ["cost own EUR 40 within EUR -10", "cost:food own EUR -50 within EUR -50",
                                      "cost:foods own within", "gain own within", "have own within EUR 10",
                                      "have:bank own USD -30 within EUR 10 USD -30",
                                      "have:bank:giro own EUR 10 within EUR 10", "have:cash own USD 30 within USD 30",
                                      "owe own within", "own own within", "own:kept own within"]),
    ("balances 2024-02-29", ["cost EUR 80", "gain EUR -1000", "have:bank USD -30", "have:bank:giro EUR 920",
                             "have:cash USD 30"]),
    ("balances 2024-01-09", ["nothing"]),
    ("statement have:bank EUR 2024-02-01 2024-02-29", ["opening 910", "5 2024-02-11 50 960", "3 2024-02-29 -40 920"]),
    ("statement owe EUR 2024-02-01 2024-02-29", ["opening 0"]),
    ("months cost:food EUR 2024-01 2024-01", ["50"]),
    ("months cost:food EUR 2024-01 2024-02", ["0"]),
    ("months cost:food EUR 2024-02 2024-01", ["0"]),
    ("months no:such EUR 2024-01 2024-02", ["0"]),
    ("worth USD 2024-02-29", ["cost 120 120", "cost:food 0 0", "cost:foods 0 0", "gain -1500 -1500", "have 0 1380",
                              "have:bank -30 1350", "have:bank:giro 1380 1380", "have:cash 30 30", "owe 0 0", "own 0 0",
                              "own:kept 0 0"]),
    ("left food 2024-01", ["-16"]),
    ("left food 2024-02", ["67"]),
    ("over 2024-01", ["food 16"]),
    ("over 2024-02", ["nothing"]),
    ("seals", ["2024-01 3", "cost EUR 40", "cost:food EUR 50", "gain EUR -1000", "have:bank:giro EUR 910"]),
]
BALANCES_OF_FEBRUARY = ["cost EUR 80", "gain EUR -1000", "have:bank USD -30", "have:bank:giro EUR 920", "have:cash USD 30"]
ENDING = [("drop standing rent", ["done"]), ("drop budget food", ["done"]), ("run 2024-12-31", ["nothing"])]
ENDING.extend(("close 2024-%02d -" % month, ["2024-%02d 6" % month] + BALANCES_OF_FEBRUARY) for month in range(2, 12))
ENDING.append(("close 2024-12 own:kept", ["2024-12 7", "have:bank USD -30", "have:bank:giro EUR 920", "have:cash USD 30",
                                          "own:kept EUR -920"]))

# Lines that a house with the beginning behind it refuses, with its words.
REFUSED = [
    ("top Have have", "bad name"),
    ("shut have:bank 2024-01-01", "bad day"),
    ("budget x cost EUR 2024-02 2024-01 5 1", "bad month"),
    ("standing x 2024-03-01 0 1 cost EUR 1 have EUR -1 |", "bad count"),
    ("budget x cost EUR 2024-02 2024-02 1000000000000001 1", "bad amount"),
    ("add have:x eur 2024-02-01", "bad currency"),
    ("book 2024-02-01 have:bank:giro USD 1 have USD -1 |", "bad currency"),
    ("worth usd 2024-02-29", "bad currency"),
    ("budget x cost EUR 2024-02 2024-02 5 1,1", "bad share"),
    ("add have any 2024-02-01", "bad path"),
    ("top x none", "bad kind"),
    ("statement have:x EUR 2024-02-01 2024-02-29", "no account"),
    ("book 2024-02-01 have:x EUR 1 have EUR -1 |", "no account"),
    ("shut have:x 2024-02-01", "no account"),
    ("top have own", "twice"),
    ("budget food cost EUR 2024-02 2024-02 5 1", "twice"),
    ("standing rent 2024-03-01 1 1 cost EUR 1 have EUR -1 |", "twice"),
    ("shut have:cash 2025-07-01", "not open"),
    ("book 2025-06-01 have:cash USD 1 have USD -1 |", "not open"),
    ("shut have 2030-01-01", "has below"),
    ("quote 2024-02-01 EUR 0 USD 1", "bad rate"),
    ("worth CHF 2024-02-29", "no rate"),
    ("book 2024-02-01 have EUR 1 |", "bad row"),
    ("standing x 2024-03-01 1 1 cost EUR 0 have EUR -1 |", "bad row"),
    ("book 2024-02-01 have EUR 1 own EUR 1 have AUD 1 |", "uneven AUD"),
    ("book 2024-02-01 have EUR 1 own EUR 1 |", "uneven EUR"),
    ("undo 6 2024-02-11 |", "no booking"),
    ("undo -1 2024-02-11 |", "no booking"),
    ("undo 1 2024-02-11 |", "undone"),
    ("undo 5 2024-02-11 |", "undone"),
    ("undo 0 2024-01-09 |", "bad day"),
    ("book 2024-01-31 have EUR 1 own EUR -1 |", "closed"),
    ("undo 0 2024-01-31 |", "closed"),
    ("close 2024-03 -", "not next"),
    ("close 2024-01 -", "not next"),
    ("left x 2024-01", "no budget"),
    ("drop budget rent", "no budget"),
    ("drop standing food", "no order"),
]
NO_LINES = ["", " ", "x", "accounts ", " accounts", "top have", "top  have have", "book 2024-02-01 | x", "run 2024-02-30",
            "close 2024-02", "book 2024-02-01 have EUR 1 own EUR -1", "seals\n", "top a\thave", "drop x y"]
