"""What always holds of nets."""

from namedmeets.labels import ROOT
from namedmeets.programs import function_named
from namedmeets.tables import COMPARING, NUM, TRUTH


def ends_of(book, label):
    """The pairs (gives, name of the kind) of the ends of a cell with this label; copy and leave cells tell no kind."""
    sort = label[0]
    if sort == "maker":
        maker, kind = book.makers[label[1]]
        return ((True, kind),) + tuple([(False, place) for place in maker.places])
    if sort == "number":
        return ((True, NUM),)
    if sort == "work":
        function = book.functions[label[1]]
        return tuple([(False, place) for place in function.places]) + ((True, function.result),)
    if sort == "copy":
        return ((False, None), (True, None), (True, None))
    if sort == "leave":
        return ((False, None),)
    takes = ((False, NUM),) * (4 - len(label))
    return takes + ((True, TRUTH if label[1] in COMPARING else NUM),)


def all_ends(book, net):
    """For each end of the cells, and for the root, the pair (gives, name of its kind)."""
    ends = {ROOT: (False, function_named(book.flat.program, book.name).result)}
    for cell in net.cells:
        for k, told in enumerate(ends_of(book, cell.label)):
            ends[(cell.name, k)] = told
    return ends


def ends_hold(ends, ties):
    """Whether each end is in exactly one tie, and each tie tells a giving end, then a taking one."""
    tied = {}
    for giving, taking in ties:
        if giving not in ends or taking not in ends or not ends[giving][0] or ends[taking][0]:
            return False
        tied[giving] = True
        tied[taking] = True
    # No end is missing, and none was told twice.
    return len(tied) == len(ends) and 2 * len(ties) == len(ends)


def kinds_hold(ends, ties):
    """Whether there are kinds for the copy and leave cells so that both ends of each tie have the same kind."""
    found = []
    beside = {}
    for giving, taking in ties:
        one, two = ends[giving][1], ends[taking][1]
        if one is None and two is None:
            beside.setdefault(giving[0], []).append(taking[0])
            beside.setdefault(taking[0], []).append(giving[0])
        elif one is None:
            found.append((giving[0], two))
        elif two is None:
            found.append((taking[0], one))
        elif one != two:
            return False
    kinds = {}
    while found:
        name, kind = found.pop()
        if name not in kinds:
            kinds[name] = kind
            found.extend([(other, kind) for other in beside.get(name, [])])
        elif kinds[name] != kind:
            return False
    return True


def in_flow(names, ties):
    """The names of cells, each behind all cells that feed it; those on rings, and behind them, are left out."""
    fed = {name: 0 for name in names}
    behind = {name: [] for name in names}
    for giving, taking in ties:
        if taking != ROOT:
            fed[taking[0]] += 1
            behind[giving[0]].append(taking[0])
    order = [name for name in names if fed[name] == 0]
    at = 0
    while at < len(order):
        one = order[at]
        at += 1
        for name in behind[one]:
            fed[name] -= 1
            if fed[name] == 0:
                order.append(name)
    return order


def kept(book, net):
    """None if all holds of a net that always holds, otherwise the first word of what does not."""
    ends = all_ends(book, net)
    if not ends_hold(ends, net.ties):
        return "ends"
    if not kinds_hold(ends, net.ties):
        return "kinds"
    if len(in_flow([cell.name for cell in net.cells], net.ties)) < len(net.cells):
        return "ring"
    return None
