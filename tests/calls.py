"""Calls as the tests write them, and their answers one by one."""

from tickstore.disk import answers

BIG = 10 ** 18

RESET = [0]
BEGIN = [2]
CUT = [5]
RECOVER = [6]
CONTENTS = [8]


def tick(power, *changes):
    return [1, power, len(changes), *changes]


def write(count):
    return [3, count]


def commit(power):
    return [4, power]


def get(key):
    return [7, key]


def ask(*calls):
    """The answers of the calls, as one request: a list for each call."""
    given = answers([number for call in calls for number in call])
    apart = []
    place = 0
    while place < len(given):
        end = place + 1 + given[place]
        apart.append(given[place + 1:end])
        place = end
    if place != len(given) or len(apart) != len(calls):
        raise ValueError("the answers do not have their form")
    return apart


def last(*calls):
    """The answer of the last call."""
    return ask(*calls)[-1]
