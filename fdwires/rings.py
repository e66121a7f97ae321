"""Rings: where links from number to number come back to their beginning."""


def ring_from(links, start):
    """The ring that begins with a number, () if it is in none; different numbers have different next ones."""
    ring = [start]
    number = links.get(start)
    while number is not None and number != start:
        ring.append(number)
        number = links.get(number)
    return () if number is None else tuple(ring)


def shortest_ring(links):
    """A ring with as few numbers as possible, None if there is none; links has a list of next ones for each number."""
    rings = [shortest_ring_from(links, start) for start in links]
    found = [ring for ring in rings if ring is not None]
    return min(found, key=len, default=None)


def shortest_ring_from(links, start):
    """A ring that begins with a number and has as few others as possible, None if it is in none."""
    paths = {start: [start]}
    layer = [start]
    while len(layer) > 0:
        further = []
        for number in layer:
            if start in links[number]:
                return paths[number]
            for other in links[number]:
                if other not in paths:
                    paths[other] = paths[number] + [other]
                    further.append(other)
        layer = further
    return None
