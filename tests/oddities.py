"""Things of every kind, to ask what is told of anything."""

from itertools import chain

DEEP_LIST = []
DEEP_TUPLE = ()
DEEP_DICT = {}
for _ in range(39):
    DEEP_LIST = [DEEP_LIST]
    DEEP_TUPLE = (DEEP_TUPLE,)
    DEEP_DICT = {"a": DEEP_DICT}

NO_TEXTS = [
    None, True, False, 0, 1, -1, 7, 10 ** 9, -10 ** 9, 10 ** 30, -10 ** 30,
    [], (), {}, [None], (None,), {None: None}, {"a": []}, {(): ()},
    [0], (0,), [True], (True,), ["a"], ("a",), ["word", "a"], ("word", "a"), {"word": "a"},
    ["letters"], ("letters",), {"letters": True}, ("ann@hill",), ["+123"], ("/a",), ["c-e"],
    (("word", "a"),), [("word", "a")], (["word", "a"],), (("word", ["a"]),), (("word", {}),),
    (("pause",),), [["pause"]], (("pause",), None), ([],), ({},), ((),), [()], ([[]], {"b": ({},)}),
    ((([], {}), [()]), {"a": [({},)]}), [None, True, 0, "a", (), {}],
    DEEP_LIST, DEEP_TUPLE, DEEP_DICT,
]

TEXTS = [
    "", " ", "\n", "a\n", "\na", "0", "-1", "None", "True", "()", "[]", "{}", "@", "+", "/", "-", "~", ";", "<b>",
    "Ann", "ann hill", "ann@@hill", "a" * 20000, " " * 20000, "0" * 20000, "a-" * 10000, "/a" * 10000, "@" * 20000,
    "\\", "'", "\"", "`", "|", "word", "letters", "a" * 9, "someone",
]

ANYTHING = list(chain(NO_TEXTS, TEXTS))

SIGNS = [chr(number) for number in range(32, 127) if number != 37] + ["\n"]
