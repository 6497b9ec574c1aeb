"""Days and months, both counted from the first one of the year 2000."""

from evenhall.errors import BadDay
from evenhall.words import is_among, number_in, number_text

LENGTHS = (31, 28, 31, 30, 31, 30, 31, 31, 30, 31, 30, 31)


def is_day(thing):
    return is_among(thing, 0, 146096)


def is_month(thing):
    return is_among(thing, 0, 4799)


def leap_days(years):
    # Each count is rounded up, as the first of these years, 2000, goes by 4, by 100 and by 400.
    return (years + 3) // 4 - (years + 99) // 100 + (years + 399) // 400


def first_day(month):
    years = month // 12
    ahead = month % 12
    # Behind the second month the leap day of the year itself, if there is one, is gone by.
    leaps = leap_days(years + 1) if ahead > 1 else leap_days(years)
    return 365 * years + leaps + sum(LENGTHS[:ahead])


def last_day(month):
    return first_day(month + 1) - 1


def month_of(day):
    # 4800 months have 146097 days, so this is at most a month or so beside the right one.
    month = day * 4800 // 146097
    while first_day(month) > day:
        month = month - 1
    while last_day(month) < day:
        month = month + 1
    return month


def day_at(year, month, place):
    if is_among(year, 2000, 2399) and is_among(month, 1, 12):
        whole_month = 12 * (year - 2000) + month - 1
        first = first_day(whole_month)
        if is_among(place, 1, last_day(whole_month) - first + 1):
            return first + place - 1
    raise BadDay("there is no such day")


def parts_of(day):
    month = month_of(day)
    return (2000 + month // 12, month % 12 + 1, day - first_day(month) + 1)


def day_text(day):
    return "-".join([number_text(part).zfill(2) for part in parts_of(day)])


def day_of(text):
    if isinstance(text, str) and len(text) == 10:
        day = day_at(number_in(text[:4]), number_in(text[5:7]), number_in(text[8:]))
        if day_text(day) == text:
            return day
    raise BadDay("this writes no day")


def stepped(day, months):
    month = month_of(day)
    place = day - first_day(month)
    other = month + months
    if not is_month(other):
        raise BadDay("there is no such month")
    return min(first_day(other) + place, last_day(other))
