"""Orders: as tuples, and written as lines."""

from evenhall.days import day_of, day_text, first_day, month_of
from evenhall.errors import BadDay, BadOrder
from evenhall.words import is_note, number_of, number_text, signs_lie

# What stands behind each order's word, in the order of the line and of the tuple.
FORMS = {
    "top": ("word", "word"),
    "add": ("word", "currency", "day"),
    "shut": ("word", "day"),
    "quote": ("day", "word", "number", "word", "number"),
    "book": ("day", "rows", "note"),
    "undo": ("number", "day", "note"),
    "close": ("month", "keeper"),
    "budget": ("word", "word", "word", "month", "month", "number", "weights"),
    "standing": ("word", "day", "number", "number", "rows", "note"),
    "drop": ("shelf", "word"),
    "run": ("day",),
    "accounts": (),
    "report": ("day", "day"),
    "balances": ("day",),
    "statement": ("word", "word", "day", "day"),
    "months": ("word", "word", "month", "month"),
    "worth": ("word", "day"),
    "left": ("word", "month"),
    "over": ("month",),
    "seals": (),
}


def month_text(month):
    return day_text(first_day(month))[:-3]


def read_word(text):
    if len(text) == 0 or not signs_lie(text, "!", "~") or "|" in text:
        raise BadOrder("a word has one sign or more, no blank and no bar")
    return text


def read_currency(text):
    return None if text == "any" else read_word(text)


def read_keeper(text):
    return None if text == "-" else read_word(text)


def read_shelf(text):
    if text != "budget" and text != "standing":
        raise BadOrder("budgets and standing orders are dropped, nothing else")
    return text


def read_number(text):
    number = number_of(text)
    if number is None:
        raise BadOrder("this is no number's text")
    return number


def read_day(text):
    try:
        return day_of(text)
    except BadDay:
        raise BadOrder("this is no day's text")


def read_month(text):
    return month_of(read_day(text + "-01"))


def read_weights(text):
    return tuple([read_number(weight) for weight in text.split(",")])


def read_rows(text):
    words = text.split(" ")
    if len(words) % 3 != 0:
        raise BadOrder("a row has three words")
    return tuple([(read_word(words[at]), read_word(words[at + 1]), read_number(words[at + 2]))
                  for at in range(0, len(words), 3)])


def read_note(text):
    # The text has the bar ahead, as the note is all that stands behind it.
    if text == "|":
        return ""
    note = text[2:]
    if not text.startswith("| ") or note == "" or not is_note(note):
        raise BadOrder("behind the bar stand a blank and the note, or nothing")
    return note


READERS = {
    "word": read_word, "currency": read_currency, "keeper": read_keeper, "shelf": read_shelf, "number": read_number,
    "day": read_day, "month": read_month, "weights": read_weights, "rows": read_rows, "note": read_note,
}


def pieces_of(form, line):
    if "note" not in form:
        return line.split(" ")[1:]
    # No word ahead of the note has a bar, so the first one is where the note begins.
    halves = line.partition(" |")
    pieces = halves[0].split(" ")[1:]
    if "rows" in form:
        ahead = form.index("rows")
        pieces = pieces[:ahead] + [" ".join(pieces[ahead:])]
    return pieces + [halves[1][1:] + halves[2]]


def order_of(line):
    if not isinstance(line, str):
        raise BadOrder("an order's line is a text")
    word = line.split(" ")[0]
    if word not in FORMS:
        raise BadOrder("there is no such order")
    form = FORMS[word]
    pieces = pieces_of(form, line)
    if len(pieces) != len(form):
        raise BadOrder("the order has other parts")
    parts = []
    for kind, piece in zip(form, pieces):
        reader = READERS[kind]
        parts.append(reader(piece))
    return tuple([word] + parts)


def write_word(word):
    return word


def write_currency(currency):
    return "any" if currency is None else currency


def write_keeper(path):
    return "-" if path is None else path


def write_weights(weights):
    return ",".join([number_text(weight) for weight in weights])


def write_row(row):
    return " ".join([row[0], row[1], number_text(row[2])])


def write_rows(rows):
    return " ".join([write_row(row) for row in rows])


def write_note(note):
    return "|" if note == "" else "| " + note


def write_number(number):
    return number_text(number)


def write_day(day):
    return day_text(day)


WRITERS = {
    "word": write_word, "currency": write_currency, "keeper": write_keeper, "shelf": write_word, "number": write_number,
    "day": write_day, "month": month_text, "weights": write_weights, "rows": write_rows, "note": write_note,
}


def line_of(order):
    texts = [order[0]]
    for kind, part in zip(FORMS[order[0]], order[1:]):
        writer = WRITERS[kind]
        texts.append(writer(part))
    return " ".join(texts)
