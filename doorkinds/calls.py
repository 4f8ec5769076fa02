"""The body of calls: a tuple of spoken words."""

from doorkinds.errors import NoBody
from doorkinds.growing import Growing
from doorkinds.rows import is_row_of_texts
from doorkinds.wholes import whole_of

_SPOKEN_SIGNS = {
    "-": "minus", "0": "nought", "1": "one", "2": "two", "3": "three", "4": "four", "5": "five", "6": "six",
    "7": "seven", "8": "eight", "9": "nine",
}
_SIGNS_SPOKEN = {
    "minus": "-", "nought": "0", "one": "1", "two": "2", "three": "3", "four": "4", "five": "5", "six": "6",
    "seven": "7", "eight": "8", "nine": "9",
}
_SAID_OTHERWISE = ("number", "over", "name", "quote", "unquote", "pause", "spell")
_UNTIL_OVER = ("number", "name", "spell")


def written(saying):
    """Tell the body of calls of a saying of calls."""
    return tuple(_words_of_all(saying))


def _words_of_all(parts):
    words = []
    for part in parts:
        words.extend(_words_of(part))
    return words


def _words_of(part):
    if part[0] == "number":
        return ["number", *_spoken(str(part[1])), "over"]
    if part[0] == "name":
        return ["name", *_spoken(part[1].removeprefix("+")), "over"]
    if part[0] == "pause":
        return ["pause"]
    if part[0] == "quote":
        return ["quote", *_words_of_all(part[1]), "unquote"]
    if _is_said(part[1]):
        return ["spell", *list(part[1]), "over"]
    return [part[1]]


def _spoken(signs):
    return [_SPOKEN_SIGNS[sign] for sign in signs]


def _is_said(word):
    return word in _SIGNS_SPOKEN or word in _SAID_OTHERWISE


def read(body):
    """Tell the saying that a body of calls speaks, or refuse with NoBody, of anything."""
    if not is_row_of_texts(body):
        raise NoBody("a body of calls is a tuple of texts")
    growing = Growing()
    at = 0
    while at < len(body):
        at = _read_at(body, at, growing)
    saying = growing.saying_of("calls")
    # What is spoken otherwise than the saying is, as a word spelled without need, was read, too.
    if written(saying) != body:
        raise NoBody("this is spoken otherwise")
    return saying


def _read_at(body, at, growing):
    word = body[at]
    if word in _UNTIL_OVER:
        over = _over_from(body, at)
        growing.put(_part_until_over(word, body[at + 1:over]))
        return over + 1
    if word == "quote":
        growing.begin("quote")
    elif word == "unquote":
        growing.end("quote")
    elif word == "pause":
        growing.put(("pause",))
    else:
        growing.put(("word", word))
    return at + 1


def _over_from(body, at):
    over = at
    while over < len(body) and body[over] != "over":
        over += 1
    if over == len(body):
        raise NoBody("there is no over")
    return over


def _part_until_over(first, words):
    if first == "spell":
        return ("word", "".join(words))
    signs = _signs_of(words)
    if first == "name":
        return ("name", "+" + signs)
    number = whole_of(signs)
    if number is None:
        raise NoBody("these figures are no number")
    return ("number", number)


def _signs_of(words):
    if not all([word in _SIGNS_SPOKEN for word in words]):
        raise NoBody("this is no figure")
    return "".join([_SIGNS_SPOKEN[word] for word in words])
