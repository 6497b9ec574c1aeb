"""What several tests share: things of other kinds, and the refusals of the document."""

import evenhall.errors as errors

REFUSALS = (
    "BadName", "BadNote", "BadDay", "BadMonth", "BadCount", "BadAmount", "BadCurrency", "BadShare", "BadPath",
    "BadKind", "NoAccount", "Twice", "NotOpen", "HasBelow", "BadRate", "NoRate", "BadRow", "Uneven", "NoBooking",
    "Undone", "Closed", "NotNext", "NoBudget", "NoOrder", "BadOrder",
)


def no_texts():
    return [None, True, False, 0, 1, -1, 10 ** 5000, 1.0, float("nan"), b"", b"abc", [], ["a"], ["a", "b", "c"],
            ("A", "B", "C"), {}, {"a": 1}, {"a"}, object(), str, len, ValueError("abc")]


def no_wholes():
    return [None, True, False, 0.0, 1.0, float("nan"), float("inf"), "", "0", "1", "one", b"1", [], [1], (1,), {},
            {1: 1}, {1}, object(), int, len]


def need_refusal(case, name, call, *handed):
    """The call is refused with just the class of that name, which HouseError and ValueError take too."""
    try:
        told = call(*handed)
    except errors.HouseError as refusal:
        taken_by = [other for other in REFUSALS if isinstance(refusal, getattr(errors, other))]
        case.assertEqual(taken_by, [name], short(handed))
        case.assertIsInstance(refusal, ValueError)
    else:
        case.fail("%s told %s for %s, %s was asked for" % (call.__name__, short(told), short(handed), name))


def short(thing):
    """A text for messages, also of numbers that are too long for repr."""
    try:
        return repr(thing)[:200]
    except ValueError:
        return "(too long to show)"
