"""The names in sayings."""

from doorkinds.less import carries
from doorkinds.sayings import GROUPS, parts_of, parts_within


def names_in(saying):
    """Tell the names in the saying in the order of paths, each once, a list."""
    found = {}
    for part in parts_of(saying):
        if part[0] == "name":
            found[part[1]] = True
    return list(found)


def names_for(saying, kind):
    """Tell those names in the saying that the kind carries, a list likewise."""
    if "name" not in carries(kind):
        return []
    return names_in(saying)


def renamed(saying, stead):
    """Tell the saying with another part in the stead of each name that the dict has; other names stay."""
    return tuple([_renamed_part(part, stead) for part in saying])


def _renamed_part(part, stead):
    if part[0] in GROUPS:
        return (part[0], renamed(parts_within(part), stead))
    if part[0] == "name":
        return stead.get(part[1], part)
    return part


def led_by(saying, led):
    """Tell the saying with each name that the dict leads led."""
    return renamed(saying, {name: ("name", other) for name, other in led.items()})
