"""Currencies and amounts."""

from evenhall.errors import BadAmount
from evenhall.words import is_among, number_in, number_text, signs_lie


def is_amount(thing):
    return is_among(thing, -10 ** 15, 10 ** 15)


def is_currency(thing):
    return isinstance(thing, str) and len(thing) == 3 and signs_lie(thing, "A", "Z")


def amount_text(amount, places):
    figures = number_text(abs(amount)).zfill(places + 1)
    if places > 0:
        cut = len(figures) - places
        figures = figures[:cut] + "." + figures[cut:]
    if amount < 0:
        return "-" + figures
    return figures


def amount_of(word, places):
    if isinstance(word, str):
        amount = number_in(word)
        if is_amount(amount) and amount_text(amount, places) == word:
            return amount
    raise BadAmount("this writes no amount")
