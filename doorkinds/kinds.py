"""Kinds of nets, words, names, and the doors' own names."""

KINDS = ("letters", "calls", "pages", "sounds")
LETTERS = "abcdefghijklmnopqrstuvwxyz"
TONES = "abcdefg"
FIGURES = "0123456789"
LONGEST_WORD = 8
LAST_DOOR = 6
LAST_OWN = 2400


def is_kind(thing):
    """Tell of anything whether it is a kind of net."""
    return isinstance(thing, str) and thing in KINDS


def is_word(thing):
    """Tell of anything whether it is a word."""
    return isinstance(thing, str) and 1 <= len(thing) <= LONGEST_WORD and is_made_of(thing, LETTERS)


def is_made_of(text, signs):
    """Tell whether every sign of the text is one of the signs."""
    return all([sign in signs for sign in text])


def _is_letters_name(text):
    words = text.split("@")
    return len(words) == 2 and all([is_word(word) for word in words])


def _is_calls_name(text):
    figures = text[1:]
    return text.startswith("+") and 3 <= len(figures) <= 9 and is_made_of(figures, FIGURES)


def _is_pages_name(text):
    words = text.split("/")[1:]
    return text.startswith("/") and 1 <= len(words) <= 3 and all([is_word(word) for word in words])


def _is_sounds_name(text):
    tones = text.split("-")
    return 2 <= len(tones) <= 6 and all([len(tone) == 1 and tone in TONES for tone in tones])


_NAME_TESTS = {
    "letters": _is_letters_name,
    "calls": _is_calls_name,
    "pages": _is_pages_name,
    "sounds": _is_sounds_name,
}


def is_name(kind, thing):
    """Tell of anything whether it is a name of the kind."""
    if not isinstance(thing, str):
        return False
    is_name_there = _NAME_TESTS[kind]
    return is_name_there(thing)


def own_name(kind, door, k):
    """Tell the door's own name with the number k in the kind."""
    ahead, behind = _ahead_and_behind(kind, door)
    return ahead + _number_written(kind, k) + behind


def owner_of(kind, name):
    """Tell the door whose own name this is and its number, a tuple, or None of anything else."""
    if not is_name(kind, name):
        return None
    for door in range(LAST_DOOR + 1):
        ahead, behind = _ahead_and_behind(kind, door)
        if name.startswith(ahead) and name.endswith(behind):
            return _owner_by(kind, door, name[len(ahead):len(name) - len(behind)])
    return None


def _owner_by(kind, door, written):
    k = _number_read(kind, written)
    # What isn't written as a number is, as with noughts ahead, is read as one that is written otherwise.
    if k <= LAST_OWN and _number_written(kind, k) == written:
        return (door, k)
    return None


def _ahead_and_behind(kind, door):
    letter = LETTERS[door]
    if kind == "letters":
        return ("", f"@door{letter}")
    if kind == "calls":
        return (f"+9{door}", "")
    if kind == "pages":
        return (f"/door{letter}/", "")
    return (f"g-{letter}-", "")


def _number_written(kind, k):
    if kind == "calls":
        return str(k)
    if kind == "sounds":
        return _in_tones(k)
    return _kth_word(k)


def _number_read(kind, written):
    if kind == "calls":
        return int(written)
    if kind == "sounds":
        return _of_tones(written)
    return _of_word(written)


def _kth_word(k):
    word = ""
    rest = k
    while rest >= 0:
        word = LETTERS[rest % 26] + word
        # The words of one more letter begin where those of fewer end, so there is no nought: one is taken off.
        rest = rest // 26 - 1
    return word


def _of_word(word):
    many = 0
    for letter in word:
        many = many * 26 + LETTERS.find(letter) + 1
    return many - 1


def _in_tones(k):
    tones = [TONES[k % 7]]
    rest = k // 7
    while rest > 0:
        tones.append(TONES[rest % 7])
        rest = rest // 7
    return "-".join(tones[::-1])


def _of_tones(written):
    k = 0
    for tone in written.split("-"):
        k = k * 7 + TONES.find(tone)
    return k
