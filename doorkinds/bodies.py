"""Bodies by any kind."""

from doorkinds.calls import read as calls_read, written as calls_written
from doorkinds.errors import NoBody, NotCarried
from doorkinds.less import lessened
from doorkinds.letters import read as letters_read, written as letters_written
from doorkinds.pages import read as pages_read, written as pages_written
from doorkinds.sounds import read as sounds_read, written as sounds_written


def written_as(kind, saying):
    """Tell the body of the kind, or refuse with NotCarried where the kind doesn't carry a part."""
    losses = lessened(saying, kind)[1]
    if len(losses) > 0:
        raise NotCarried(losses[0][0])
    if kind == "letters":
        return letters_written(saying)
    if kind == "calls":
        return calls_written(saying)
    if kind == "pages":
        return pages_written(saying)
    return sounds_written(saying)


def read_as(kind, body):
    """Tell the saying that a body of the kind writes, or refuse with NoBody, of anything."""
    if kind == "letters":
        return letters_read(body)
    if kind == "calls":
        return calls_read(body)
    if kind == "pages":
        return pages_read(body)
    return sounds_read(body)


def is_body(kind, thing):
    """Tell of anything whether it is a body of the kind that reads."""
    try:
        read_as(kind, thing)
    except NoBody:
        return False
    return True
