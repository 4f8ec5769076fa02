"""The body of letters: a text."""

from doorkinds.errors import NoBody
from doorkinds.growing import Growing, plain_part

_BEGINS = {"<": "loud", "{": "quote"}
_ENDS = {">": "loud", "}": "quote"}


def written(saying):
    """Tell the body of letters of a saying of letters."""
    return " ".join([_part_written(part) for part in saying])


def _part_written(part):
    if part[0] == "pause":
        return ";"
    if part[0] == "picture":
        rows = "/".join(part[1])
        return f"[{rows}]"
    if part[0] == "loud":
        return f"< {written(part[1])} >"
    if part[0] == "quote":
        return "{ " + written(part[1]) + " }"
    return str(part[1])


def read(body):
    """Tell the saying that a body of letters writes, or refuse with NoBody, of anything."""
    if not isinstance(body, str):
        raise NoBody("a body of letters is a text")
    growing = Growing()
    for mark in _marks_of(body):
        _read_mark(mark, growing)
    return growing.saying_of("letters")


def _marks_of(text):
    # Blanks are put where none are needed, so that those alone part what is written. Within a picture none are put:
    # what ought not to have blanks within falls to pieces that are nothing.
    spread = text.replace("\n", " ").replace("[", " [").replace("]", "] ")
    for sign in ";<>{}":
        spread = spread.replace(sign, f" {sign} ")
    return [mark for mark in spread.split(" ") if mark != ""]


def _read_mark(mark, growing):
    if mark in _BEGINS:
        growing.begin(_BEGINS[mark])
    elif mark in _ENDS:
        growing.end(_ENDS[mark])
    else:
        growing.put(_part_read(mark))


def _part_read(mark):
    if mark == ";":
        return ("pause",)
    if mark.startswith("[") and mark.endswith("]"):
        return ("picture", tuple(mark[1:-1].split("/")))
    if "@" in mark:
        return ("name", mark)
    return plain_part(mark)
