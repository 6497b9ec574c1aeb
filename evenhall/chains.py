"""Chains of quotes from one currency to another one."""

from evenhall.days import is_day
from evenhall.errors import BadCurrency, BadDay, NoRate
from evenhall.money import is_currency
from evenhall.shares import rounded


def steps_to(rates, goal, day):
    # Reckoned from the goal backwards, so that the chain can be laid from its beginning with no way tried in vain.
    steps = {goal: 0}
    reached = [goal]
    while len(reached) > 0:
        farther = []
        for currency in reached:
            for neighbour in rates.neighbours(currency, day):
                if neighbour not in steps:
                    steps[neighbour] = steps[currency] + 1
                    farther.append(neighbour)
        reached = farther
    return steps


def chain(rates, one, other, day):
    if not is_currency(one) or not is_currency(other):
        raise BadCurrency("this is no currency")
    if not is_day(day):
        raise BadDay("this is no day")
    steps = steps_to(rates, other, day)
    if one not in steps:
        raise NoRate("no chain of quotes leads there")
    told = [one]
    while told[-1] != other:
        wanted = steps[told[-1]] - 1
        # Neighbours rise, so the first one that comes nearer makes the first chain in the order of lists.
        nearer = [currency for currency in rates.neighbours(told[-1], day) if steps[currency] == wanted]
        told.append(nearer[0])
    return told


def common_measure(one, other):
    while other > 0:
        rest = one % other
        one = other
        other = rest
    return one


def rate(rates, one, other, day):
    currencies = chain(rates, one, other, day)
    p = 1
    q = 1
    for here, there in zip(currencies, currencies[1:]):
        worth = rates.newest(here, there, day)
        p = p * worth[0]
        q = q * worth[1]
    measure = common_measure(p, q)
    return (p // measure, q // measure)


def converted(rates, amount, one, other, day):
    worth = rate(rates, one, other, day)
    return rounded(amount * worth[1], worth[0])
