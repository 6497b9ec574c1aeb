"""Orders that change a house."""

from evenhall.closing import close
from evenhall.days import day_text
from evenhall.deeds import book, undo
from evenhall.errors import BadOrder
from evenhall.orders import month_text
from evenhall.running import run
from evenhall.words import number_text


def balance_lines(rows):
    return [" ".join([path, currency, number_text(amount)]) for path, currency, amount in rows]


def seal_lines(told):
    return [month_text(told[0]) + " " + number_text(told[1])] + balance_lines(told[2])


def turn_line(name, day, number):
    booked = "refused" if number is None else number_text(number)
    return " ".join([name, day_text(day), booked])


def do_top(house, order):
    house.chart.add_top(order[1], order[2])
    return ["done"]


def do_add(house, order):
    house.chart.add(order[1], order[2], order[3])
    return ["done"]


def do_shut(house, order):
    house.chart.shut(order[1], order[2])
    return ["done"]


def do_quote(house, order):
    house.rates.quote(order[1], order[2], order[3], order[4], order[5])
    return ["done"]


def do_book(house, order):
    number = book(house.chart, house.gate, house.journal, order[1], order[3], list(order[2]))
    return ["booking " + number_text(number)]


def do_undo(house, order):
    number = undo(house.chart, house.gate, house.journal, order[1], order[2], order[3])
    return ["booking " + number_text(number)]


def do_close(house, order):
    return seal_lines(close(house.chart, house.gate, house.journal, house.seals, order[1], order[2]))


def do_budget(house, order):
    house.budgets.put(order[1], order[2], order[3], order[4], order[5], order[6], list(order[7]))
    return ["done"]


def do_standing(house, order):
    house.plans.put(order[1], order[2], order[3], order[4], order[6], list(order[5]))
    return ["done"]


def do_drop(house, order):
    if order[1] == "budget":
        house.budgets.drop(order[2])
    else:
        house.plans.drop(order[2])
    return ["done"]


def do_run(house, order):
    turns = run(house.chart, house.gate, house.journal, house.plans, order[1])
    return [turn_line(name, day, number) for name, day, number in turns]


DEEDS = {
    "top": do_top, "add": do_add, "shut": do_shut, "quote": do_quote, "book": do_book, "undo": do_undo,
    "close": do_close, "budget": do_budget, "standing": do_standing, "drop": do_drop, "run": do_run,
}


def is_deed(order):
    return order[0] in DEEDS


def carry_out(house, order):
    if not is_deed(order):
        raise BadOrder("this order changes nothing")
    many = house.journal.many()
    deed = DEEDS[order[0]]
    lines = deed(house, order)
    # Whatever was booked by the way, carries too, belongs to the sums.
    for number in range(many, house.journal.many()):
        house.sums.put(house.journal.booking(number))
    house.remember(order)
    return lines
