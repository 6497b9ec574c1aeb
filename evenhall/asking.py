"""Questions to a house."""

from evenhall.days import day_text
from evenhall.doing import balance_lines, is_deed, seal_lines
from evenhall.errors import BadOrder
from evenhall.orders import write_currency
from evenhall.reports import balances, report
from evenhall.statements import statement
from evenhall.views import valued
from evenhall.watch import left, over
from evenhall.words import number_text


def account_line(chart, path):
    span = chart.span_of(path)
    until = "open" if span[1] is None else day_text(span[1])
    currency = write_currency(chart.currency_of(path))
    return " ".join([path, chart.kind_of(path), currency, day_text(span[0]), until])


def tell_accounts(house, order):
    return [account_line(house.chart, path) for path in house.chart.accounts()]


def amount_words(amounts):
    words = []
    for currency, amount in amounts:
        words.extend([currency, number_text(amount)])
    return words


def tell_report(house, order):
    told = report(house.chart, house.journal, order[1], order[2])
    return [" ".join([path, "own"] + amount_words(own) + ["within"] + amount_words(within))
            for path, own, within in told]


def tell_balances(house, order):
    return balance_lines(balances(house.chart, house.journal, order[1]))


def statement_line(line):
    return " ".join([number_text(line[0]), day_text(line[1]), number_text(line[2]), number_text(line[3])])


def tell_statement(house, order):
    told = statement(house.chart, house.journal, order[1], order[2], order[3], order[4])
    return ["opening " + number_text(told[0])] + [statement_line(line) for line in told[1]]


def tell_months(house, order):
    return [number_text(house.sums.own(order[1], order[2], order[3], order[4]))]


def tell_worth(house, order):
    told = valued(house.chart, house.journal, house.rates, order[1], order[2])
    return [" ".join([path, number_text(own), number_text(within)]) for path, own, within in told]


def tell_left(house, order):
    return [number_text(left(house.budgets, house.journal, order[1], order[2]))]


def tell_over(house, order):
    told = over(house.budgets, house.journal, order[1])
    return [name + " " + number_text(amount) for name, amount in told]


def tell_seals(house, order):
    lines = []
    for told in house.seals.every():
        lines.extend(seal_lines(told))
    return lines


QUESTIONS = {
    "accounts": tell_accounts, "report": tell_report, "balances": tell_balances, "statement": tell_statement,
    "months": tell_months, "worth": tell_worth, "left": tell_left, "over": tell_over, "seals": tell_seals,
}


def answer_of(house, order):
    if is_deed(order):
        raise BadOrder("this order is no question")
    teller = QUESTIONS[order[0]]
    return teller(house, order)
