"""Days: the same rides again, day by day."""

from hourstairs.errors import NoDay
from hourstairs.fractions import is_below, plus, times


def later(ride, by):
    return tuple([plus(moment, by) for moment in ride])


def rides_of_days(rides, day, many):
    told = []
    for number in range(many):
        told += [later(ride, times((number, 1), day)) for ride in rides]
    return tuple(told)


def comes_again(tie, waits, day):
    a, b, rides = tie
    return a in waits and all([is_below(ride[1], day) for ride in rides])


def days(net, day, many):
    end, waits, ties = net
    told = {}
    for name in sorted(ties):
        if not comes_again(ties[name], waits, day):
            raise NoDay(name)
        a, b, rides = ties[name]
        told[name] = (a, b, rides_of_days(rides, day, many))
    return (times((many, 1), day), waits, told)
