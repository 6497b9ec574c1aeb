"""The shell: lines in, lines out."""

from evenhall.asking import answer_of
from evenhall.doing import carry_out, is_deed
from evenhall.errors import HouseError
from evenhall.house import House
from evenhall.orders import order_of


def lines_for(house, order):
    if is_deed(order):
        return carry_out(house, order)
    return answer_of(house, order)


def answered(house, line):
    try:
        lines = lines_for(house, order_of(line))
    except HouseError as refusal:
        return [refusal.small_words()]
    return lines if len(lines) > 0 else ["nothing"]


def played(lines):
    house = House()
    return [answered(house, line) for line in lines]
