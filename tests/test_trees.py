"""[7], and [2] for objects: what programs consist of."""

import unittest

from namedmeets.trees import Applied, Function, Kind, Let, Maker, Number, Place, Row, Shape

LISTS = ((Maker, ("M",), "places"), (Kind, ("K",), "makers"), (Shape, ("M",), "parts"), (Applied, ("f",), "parts"))


class Trees(unittest.TestCase):
    def test_attributes(self):
        maker = Maker("Cons", ("Num", "List"))
        self.assertEqual((maker.name, maker.places), ("Cons", ("Num", "List")))
        kind = Kind("List", (maker,))
        self.assertEqual((kind.name, kind.makers), ("List", (maker,)))
        pattern = Shape("Cons", (Place("x"), Place("t")))
        self.assertEqual((pattern.maker, [one.name for one in pattern.parts]), ("Cons", ["x", "t"]))
        self.assertEqual(Number(-7).number, -7)
        body = Applied("+", (Number(1), Place("x")))
        self.assertEqual((body.name, body.parts[0].number, body.parts[1].name), ("+", 1, "x"))
        let = Let("y", Number(1), body)
        self.assertEqual((let.name, let.one.number), ("y", 1))
        self.assertIs(let.body, body)
        row = Row((pattern,), let)
        self.assertEqual(row.patterns, (pattern,))
        self.assertIs(row.body, let)
        function = Function("f", ("List",), "Num", (row,))
        self.assertEqual((function.name, function.places, function.result), ("f", ("List",), "Num"))
        self.assertEqual(function.rows, (row,))

    def test_lists_are_copied_to_tuples(self):
        for make, ahead, attribute in LISTS:
            given = [1, 2]
            one = make(*ahead, given)
            given.append(3)
            self.assertEqual(getattr(one, attribute), (1, 2))
            self.assertIs(getattr(one, attribute).__class__, tuple)
        places, rows, patterns = ["A"], [1], [2]
        function = Function("f", places, "A", rows)
        row = Row(patterns, 5)
        places.append("B")
        rows.append(2)
        patterns.clear()
        self.assertEqual((function.places, function.rows, row.patterns), (("A",), (1,), (2,)))

    def test_classes_tell_objects_apart(self):
        objects = [Maker("A", ()), Kind("A", ()), Row((), 1), Function("f", (), "A", ()), Place("x"), Shape("A", ()),
                   Number(1), Applied("A", ()), Let("x", Number(1), Number(2))]
        for one in objects:
            for other in objects:
                self.assertEqual(isinstance(one, other.__class__), one is other)


if __name__ == "__main__":
    unittest.main()
