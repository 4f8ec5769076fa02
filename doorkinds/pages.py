"""The body of pages: a tuple of texts."""

from doorkinds.errors import NoBody
from doorkinds.growing import Growing, plain_part
from doorkinds.rows import is_row_of_texts


def written(saying):
    """Tell the body of pages of a saying of pages."""
    return tuple(_texts_of_all(saying))


def _texts_of_all(parts):
    texts = []
    beside = []
    for part in parts:
        if part[0] in ("word", "number"):
            beside.append(str(part[1]))
        else:
            texts.extend(_one_text(beside))
            texts.extend(_texts_of(part))
            beside = []
    texts.extend(_one_text(beside))
    return texts


def _one_text(words):
    if len(words) == 0:
        return []
    return [" ".join(words)]


def _texts_of(part):
    if part[0] == "pause":
        return ["<br>"]
    if part[0] == "name":
        return [f"<a {part[1]}>"]
    if part[0] == "picture":
        rows = "/".join(part[1])
        return [f"<img {rows}>"]
    return ["<b>", *_texts_of_all(part[1]), "</b>"]


def read(body):
    """Tell the saying that a body of pages writes, or refuse with NoBody, of anything."""
    if not is_row_of_texts(body):
        raise NoBody("a body of pages is a tuple of texts")
    growing = Growing()
    for text in body:
        _read_text(text, growing)
    saying = growing.saying_of("pages")
    # What is written otherwise than the saying is, as two texts that ought to be one, was read, too.
    if written(saying) != body:
        raise NoBody("this is written otherwise")
    return saying


def _read_text(text, growing):
    if text == "<b>":
        growing.begin("loud")
    elif text == "</b>":
        growing.end("loud")
    elif text == "<br>":
        growing.put(("pause",))
    elif text.startswith("<a "):
        growing.put(("name", text[3:-1]))
    elif text.startswith("<img "):
        growing.put(("picture", tuple(text[5:-1].split("/"))))
    else:
        for word in text.split(" "):
            growing.put(plain_part(word))
