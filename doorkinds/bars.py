"""Bars: tests of things, by which a door stops what they name."""

from doorkinds.kinds import KINDS, LETTERS, is_name, is_word
from doorkinds.sayings import FIRST_WORDS, MOST_PARTS, parts_of, size_of
from doorkinds.wholes import is_side, is_whole_within

MOST_DEEP_TESTS = 4
MOST_WITHIN = 4
MOST_BARS = 8


def is_test(thing):
    """Tell of anything whether it is a test."""
    return _is_test_within(thing, MOST_DEEP_TESTS)


def _is_test_within(thing, deep):
    # Asked ahead of all, so that what is very deep is not walked.
    if deep == 0:
        return False
    if not isinstance(thing, tuple) or len(thing) == 0:
        return False
    if thing[0] == "asks":
        return len(thing) == 1
    return len(thing) == 2 and _may_test(thing[0], thing[1], deep)


def _may_test(first, held, deep):
    if first in ("from", "to"):
        return any([is_name(kind, held) for kind in KINDS])
    if first in ("house", "says"):
        return is_word(held)
    if first == "has":
        return held in FIRST_WORDS
    if first == "longer":
        return is_whole_within(held, 0, MOST_PARTS)
    if first == "not":
        return _is_test_within(held, deep - 1)
    return first in ("all", "any") and _are_tests(held, deep - 1)


def _are_tests(thing, deep):
    if not isinstance(thing, tuple) or not 1 <= len(thing) <= MOST_WITHIN:
        return False
    return all([_is_test_within(test, deep) for test in thing])


def is_bars(thing):
    """Tell of anything whether it is bars: a tuple of tuples (side, test)."""
    return isinstance(thing, tuple) and len(thing) <= MOST_BARS and all([_is_bar(bar) for bar in thing])


def _is_bar(thing):
    return isinstance(thing, tuple) and len(thing) == 2 and is_side(thing[0]) and is_test(thing[1])


def barred_by(bars, side, thing, saying):
    """Tell the number of the first bar of the side whose test holds of a thing with this saying, or None."""
    for at, (bar_side, test) in enumerate(bars):
        if bar_side == side and _holds(test, thing, saying):
            return at
    return None


def _holds(test, thing, saying):
    first = test[0]
    if first == "not":
        return not _holds(test[1], thing, saying)
    if first == "all":
        return all([_holds(one, thing, saying) for one in test[1]])
    if first == "any":
        return any([_holds(one, thing, saying) for one in test[1]])
    if first in ("from", "to", "house", "asks"):
        return _holds_of_thing(test, thing)
    return _holds_of_saying(test, saying)


def _holds_of_thing(test, thing):
    _, sender, receiver, _, asks, _ = thing
    if test[0] == "from":
        return sender == test[1]
    if test[0] == "to":
        return receiver == test[1]
    if test[0] == "asks":
        return asks
    return any([test[1] in _runs_in(name) for name in (sender, receiver) if name is not None])


def _runs_in(name):
    # Every sign that is no letter parts two runs of letters.
    spread = "".join([sign if sign in LETTERS else " " for sign in name])
    return spread.split(" ")


def _holds_of_saying(test, saying):
    if test[0] == "longer":
        return size_of(saying) > test[1]
    if test[0] == "says":
        return ("word", test[1]) in parts_of(saying)
    return any([part[0] == test[1] for part in parts_of(saying)])
