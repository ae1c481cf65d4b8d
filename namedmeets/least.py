"""The smallest value of each kind."""

from namedmeets.tables import NUM
from namedmeets.values import Made


def size_by(maker, sizes):
    """How many cells the smallest value by a maker has; None if some part has no size yet."""
    size = 1
    for place in maker.places:
        if place not in sizes:
            return None
        size += sizes[place]
    return size


def least_sizes(kinds):
    """From the name of a kind to the size of its smallest value; kinds without values are left out."""
    sizes = {NUM: 1}
    growing = True
    while growing:
        growing = False
        for kind in kinds:
            for maker in kind.makers:
                size = size_by(maker, sizes)
                if size is not None and (kind.name not in sizes or size < sizes[kind.name]):
                    sizes[kind.name] = size
                    growing = True
    return sizes


def least_values(kinds):
    """From the name of a kind to the pair (size, smallest value); kinds without values are left out."""
    sizes = least_sizes(kinds)
    values = {NUM: (1, 0)}
    # The parts of a smallest value are smaller than it is, so they come ahead of it.
    for size, k in sorted([(sizes[kind.name], k) for k, kind in enumerate(kinds) if kind.name in sizes]):
        maker = [one for one in kinds[k].makers if size_by(one, sizes) == size][0]
        values[kinds[k].name] = (size, Made(maker.name, [values[place][1] for place in maker.places]))
    return values
