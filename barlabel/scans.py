"""Scans: widths printed as edges, and edges scanned at any scale and from either end."""

from barlabel.errors import NoLabel
from barlabel.founts import stretches_in


def edges_of(widths, first, unit):
    edges = [first]
    for width in widths:
        edges.append(edges[-1] + width * unit)
    return edges


# Half a divisor more, so that of two whole numbers as near the greater one is taken.
def nearest_quotient(number, divisor):
    return (2 * number + divisor) // (2 * divisor)


def scanned(fount, prime, edges):
    stretches = stretches_in(fount.parts(), len(edges) - 1)
    distances = [after - ahead for ahead, after in zip(edges, edges[1:])]
    if min(distances) <= 0:
        raise NoLabel()
    whole = fount.total() * stretches + fount.stop()[-1]
    span = edges[-1] - edges[0]
    return fount.looked(prime, [nearest_quotient(distance * whole, span) for distance in distances])
