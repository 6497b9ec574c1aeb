"""Whole numbers, names, notes, and numbers as texts."""


def is_whole(thing):
    # Python counts True and False among the whole numbers; the house doesn't.
    return isinstance(thing, int) and not isinstance(thing, bool)


def is_among(thing, least, most):
    return is_whole(thing) and least <= thing <= most


def signs_lie(text, least, most):
    return all([least <= sign <= most for sign in text])


def is_name(thing):
    return isinstance(thing, str) and 1 <= len(thing) <= 12 and signs_lie(thing, "a", "z")


def is_note(thing):
    if not isinstance(thing, str) or len(thing) > 40:
        return False
    if thing.startswith(" ") or thing.endswith(" "):
        return False
    return signs_lie(thing, " ", "~")


def figures_of(number):
    # Python's own str refuses numbers of some thousand figures, so a long one is written piece by piece.
    piece = 10 ** 60
    pieces = []
    while number >= piece:
        pieces.append(str(number % piece).zfill(60))
        number = number // piece
    pieces.append(str(number))
    return "".join(reversed(pieces))


def number_text(number):
    if number < 0:
        return "-" + figures_of(-number)
    return figures_of(number)


def number_in(text):
    # Other signs are passed over: who asks writes the number back and compares, as only one text is right.
    number = 0
    for sign in text:
        if "0" <= sign <= "9":
            number = 10 * number + int(sign)
    if text.startswith("-"):
        return -number
    return number


def number_of(word):
    if isinstance(word, str) and len(word) <= 30:
        number = number_in(word)
        if number_text(number) == word:
            return number
    return None
