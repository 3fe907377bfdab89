"""The four ways to go."""

from oneleash.errors import NoWay

WAYS = ("on", "part", "free", "hops")


def look_at_way(way):
    # Only a text is held against the ways: other things may have a sameness of their own.
    if not isinstance(way, str) or way not in WAYS:
        raise NoWay()
