"""Names, things and refusals, for the tests of what stands on names and things."""

from doorkinds.bodies import written_as
from doorkinds.errors import Barred, DoorError
from oddities import ANYTHING, DEEP_DICT, DEEP_LIST, DEEP_TUPLE
from samples import KINDS

PLAIN = {
    "letters": ["ann@hill", "bob@hill", "cy@dale", "a@hill"],
    "calls": ["+123", "+456", "+789", "+000000000"],
    "pages": ["/hill/ann", "/bob", "/a/b/c", "/door"],
    "sounds": ["c-e-g", "a-b", "d-d-d-d-d-d", "g-g"],
}
OWN = {
    # The own names of doors 0 and 6 with the numbers 0, 1, 7, 26.
    "letters": [["a@doora", "b@doora", "h@doora", "aa@doora"], ["a@doorg", "b@doorg", "h@doorg", "aa@doorg"]],
    "calls": [["+900", "+901", "+907", "+9026"], ["+960", "+961", "+967", "+9626"]],
    "pages": [["/doora/a", "/doora/b", "/doora/h", "/doora/aa"], ["/doorg/a", "/doorg/b", "/doorg/h", "/doorg/aa"]],
    "sounds": [["g-a-a", "g-a-b", "g-a-b-a", "g-a-d-f"], ["g-g-a", "g-g-b", "g-g-b-a", "g-g-d-f"]],
}
PAIRS_OF_KINDS = [(kind, other) for kind in KINDS for other in KINDS]
NO_SIDES = [True, False, -1, 2, "0", "1", None, [], [0], (0,), {}, {0: 1}, 10 ** 30, DEEP_LIST, DEEP_TUPLE, DEEP_DICT,
    ""]
NO_NETS = [True, False, -1, 9, 10 ** 30, "0", "", None, [], [0], (0,), (), {}, {0: 0}, DEEP_LIST, DEEP_TUPLE, DEEP_DICT]


def many_names(kind, many):
    """So many names of the kind, none of them an own name of a door."""
    letters = "abcdefghijklmnopqrstuvwxyz"
    words = [one + two for one in letters for two in letters]
    if kind == "letters":
        return [f"{word}@many" for word in words[:many]]
    if kind == "calls":
        return [f"+1{number:04}" for number in range(many)]
    if kind == "pages":
        return [f"/many/{word}" for word in words[:many]]
    tones = "abcdefg"
    rows = [f"c-{a}-{b}-{c}-{d}" for a in tones for b in tones for c in tones for d in tones]
    return rows[:many]


def own(kind, door, k):
    """The k-th own name of the door, by the document's words."""
    letters = "abcdefghijklmnopqrstuvwxyz"
    word = letters[k] if k < 26 else letters[k // 26 - 1] + letters[k % 26]
    if kind == "letters":
        return f"{word}@door{letters[door]}"
    if kind == "calls":
        return f"+9{door}{k}"
    if kind == "pages":
        return f"/door{letters[door]}/{word}"
    digits = [k % 7]
    while k >= 7:
        k //= 7
        digits.insert(0, k % 7)
    return "-".join(["g", letters[door]] + [letters[digit] for digit in digits])


def thing_of(kind, number, sender, receiver, *parts, answers=None, asks=False):
    """A thing of the kind that says these parts."""
    return (number, sender, receiver, answers, asks, written_as(kind, parts))


def refused(test, refusal, call, *args, **named):
    """The call is refused with just this class; told is what it raised."""
    with test.assertRaises(refusal) as caught:
        call(*args, **named)
    test.assertIs(type(caught.exception), refusal)
    return caught.exception


def no_names(kind):
    """Things of every kind that are no names of this one, names of the others among them."""
    names = [name for other in KINDS if other != kind for name in PLAIN[other] + OWN[other][0]]
    wrong = {
        "letters": ["ann", "ann@", "@hill", "ann@hill@", "Ann@hill", "ann@hill ", "abcdefghi@hill", "ann@hill\n"],
        "calls": ["+12", "+1234567890", "123", "+12a", "+ 123", "++123", "+123\n"],
        "pages": ["hill", "/", "//", "/a/b/c/d", "/Ann", "/a/", "/abcdefghi", "/a\n"],
        "sounds": ["c", "c-", "-c", "c-e-h", "ce", "a-a-a-a-a-a-a", "C-E", "c-e\n"],
    }
    return names + wrong[kind] + ANYTHING


def told_by(call, *args):
    """What the call tells, or the class of its refusal (of Barred with the number)."""
    try:
        return call(*args)
    except Barred as refusal:
        return (Barred, refusal.at)
    except DoorError as refusal:
        return type(refusal)
