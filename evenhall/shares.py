"""Numbers rounded, and numbers shared out by weights."""

from evenhall.errors import BadShare
from evenhall.words import is_among


def rounded(number, by):
    down = number // by
    twice_rest = 2 * (number - down * by)
    if twice_rest > by or (twice_rest == by and down % 2 == 1):
        return down + 1
    return down


def are_weights(thing):
    if not isinstance(thing, list) or not 1 <= len(thing) <= 60:
        return False
    return all([is_among(weight, 0, 10 ** 9) for weight in thing]) and sum(thing) > 0


def shared(amount, weights):
    if not are_weights(weights):
        raise BadShare("these are no weights")
    whole = sum(weights)
    parts = [amount * weight // whole for weight in weights]
    rests = [amount * weight % whole for weight in weights]
    wanted = amount - sum(parts)
    # The places stand behind the rests turned below nought, so that of like rests the first ones come first.
    served = sorted([(-rest, place) for place, rest in enumerate(rests)])[:wanted]
    for rest, place in served:
        parts[place] = parts[place] + 1
    return parts
