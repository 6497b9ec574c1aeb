"""Houses kept as the lines of their orders, and compared."""

from evenhall.doing import carry_out
from evenhall.house import House
from evenhall.orders import line_of, order_of


def house_lines(house):
    return [line_of(order) for order in house.record]


def house_of(lines):
    house = House()
    for line in lines:
        carry_out(house, order_of(line))
    return house


def told_accounts(chart):
    return [(path, chart.kind_of(path), chart.currency_of(path), chart.span_of(path)) for path in chart.accounts()]


def told_budgets(budgets):
    return [(name, budgets.terms(name)) for name in budgets.names()]


def told_plans(plans):
    return [(name, plans.terms(name), plans.done(name)) for name in plans.names()]


def all_told(house):
    return (told_accounts(house.chart), house.rates.quotes(), house.gate.closed(), house.journal.every(),
            house.sums.all_sums(), house.seals.every(), told_budgets(house.budgets), told_plans(house.plans))


def same_house(one, other):
    return all_told(one) == all_told(other)
