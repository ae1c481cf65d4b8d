"""Where cells are, told by their names and a net alone ([58])."""


class Where:
    """What the names of cells tell of a net: a working object, which keeps what it has told."""

    def __init__(self, net):
        self.known = {cell.name: "here" for cell in net.cells}

    def told(self, name):
        """here, later or gone, for any name."""
        above = []
        one = name
        while one not in self.known and "." in one:
            above.append(one)
            one = one.rpartition(".")[0]
        word = "gone" if self.known.get(one, "gone") == "gone" else "later"
        for beginning in above:
            self.known[beginning] = word
        return self.known.get(name, "gone")

    def is_gone(self, name):
        """Whether a name tells that its cell is gone."""
        return self.told(name) == "gone"
