"""Routes and tests for the tests: drawn ones, and a slow way to follow them, from node to node."""

from forestrows.routes import Has, NameIs, Route, ValueIn

AXES = ("self", "parent", "child", "ancestor", "descendant", "previous", "next", "preceding", "following")


class Slow:
    """A forest whose axes are told by pairs of names, from the rows alone.

    Tests are told by tuples: ("name", name), ("value", low, high), ("has", steps), ("and", one, other),
    ("or", one, other), ("not", one); None is no test.
    """

    def __init__(self, rows):
        self.names = [row[0] for row in rows]
        self.values = {row[0]: row[1] for row in rows}
        place = {name: at for at, name in enumerate(self.names)}
        lines = {}
        line = []
        for name, _, level in rows:
            line = [*line[:level], name]
            lines[name] = tuple(line)
        above = {(one, other) for other in self.names for one in lines[other][:-1]}
        beside = {(one, other) for one in self.names for other in self.names
                  if lines[one][:-1] == lines[other][:-1]}
        self.axes = {
            "self": lambda one, other: one == other,
            "parent": lambda one, other: (other, one) in above and len(lines[one]) == len(lines[other]) + 1,
            "child": lambda one, other: (one, other) in above and len(lines[other]) == len(lines[one]) + 1,
            "ancestor": lambda one, other: (other, one) in above,
            "descendant": lambda one, other: (one, other) in above,
            "previous": lambda one, other: (one, other) in beside and place[other] < place[one],
            "next": lambda one, other: (one, other) in beside and place[other] > place[one],
            "preceding": lambda one, other: place[other] < place[one] and (other, one) not in above,
            "following": lambda one, other: place[other] > place[one] and (one, other) not in above,
        }

    def meets(self, test, name):
        if test is None:
            return True
        kind, *parts = test
        if kind == "name":
            return name == parts[0]
        if kind == "value":
            low, high = parts
            return (low is None or self.values[name] >= low) and (high is None or self.values[name] <= high)
        if kind == "has":
            return len(self.led(parts[0], name)) > 0
        if kind == "not":
            return not self.meets(parts[0], name)
        one, other = self.meets(parts[0], name), self.meets(parts[1], name)
        return (one and other) if kind == "and" else (one or other)

    def led(self, steps, name):
        """The nodes to which steps lead from a node."""
        found = [name]
        for axis, test in steps:
            leads = self.axes[axis]
            found = [other for other in self.names if any(leads(one, other) for one in found)
                     and self.meets(test, other)]
        return found


def built(test):
    """The test of a tuple."""
    if test is None:
        return None
    kind, *parts = test
    if kind == "name":
        return NameIs(*parts)
    if kind == "value":
        return ValueIn(*parts)
    if kind == "has":
        return Has(route_of(parts[0]))
    if kind == "not":
        return ~built(parts[0])
    one, other = built(parts[0]), built(parts[1])
    return one & other if kind == "and" else one | other


def route_of(steps):
    """The route of steps whose tests are tuples."""
    return Route([(axis, built(test)) for axis, test in steps])


def some_test(rng, names, deep):
    """A test as a tuple; the parts of it are so many deep at most."""
    kind = rng.choice(["name", "value", "value"] + ["has", "has", "not", "and", "or"] * (deep > 0))
    if kind == "name":
        return (kind, rng.choice([*names, "nobody"]))
    if kind == "value":
        return (kind, rng.choice([None, rng.randrange(-40, 40)]), rng.choice([None, rng.randrange(-40, 40)]))
    if kind == "has":
        return (kind, some_steps(rng, names, deep - 1, 3))
    return (kind, *[some_test(rng, names, deep - 1) for _ in range(1 if kind == "not" else 2)])


def some_steps(rng, names, deep, most):
    """Steps with tests as tuples."""
    return [(rng.choice(AXES), some_test(rng, names, deep) if rng.randrange(2) else None)
            for _ in range(rng.randrange(most + 1))]
