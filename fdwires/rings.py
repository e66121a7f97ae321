"""Rings: where links from number to number come back to their beginning."""


def ring_from(links, start):
    """The ring that begins with a number, () if it is in none; different numbers have different next ones."""
    ring = [start]
    number = links.get(start)
    while number is not None and number != start:
        ring.append(number)
        number = links.get(number)
    return () if number is None else tuple(ring)
