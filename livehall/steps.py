"""Ways, and the steps that come of their bodies.

A body is done by steps in one row, so that the place where a way is, is one number, and stays the same place when
fields or kinds in the body are renamed. Steps put what they work out on a pile, and take from it what they need.
"""

PAIRS = ("same", "add", "sub", "mul", "under")


class Builder:
    """Lays steps; marks are places that are known only when all steps are laid."""

    def __init__(self):
        self.steps = []
        self.catches = []
        self.marks = []
        self.guards = []

    def new_mark(self):
        self.marks.append(None)
        return len(self.marks) - 1

    def lay(self, what, part):
        """Lays a step, sets a mark here, or begins or ends the rows whose faults are taken at a mark."""
        if what == "step":
            self.steps.append(part)
            self.catches.append(self.guards[-1] if self.guards else None)
        elif what == "mark":
            self.marks[part] = len(self.steps)
        elif what == "guard":
            self.guards.append(part)
        else:
            self.guards.pop()

    def placed(self, step):
        return (step[0], self.marks[step[1]]) if step[0] in ("branch", "jump") else step

    def finished(self):
        """The steps, and for each the place at which its faults are taken, None if nowhere in the way."""
        steps = [self.placed(step) for step in self.steps]
        catches = [None if mark is None else self.marks[mark] for mark in self.catches]
        return tuple(steps), tuple(catches)


def when_orders(builder, row):
    other = builder.new_mark()
    behind = builder.new_mark()
    return [
        ("e", row[1]), ("step", ("branch", other)),
        ("body", row[2]), ("step", ("jump", behind)),
        ("mark", other), ("body", row[3]), ("mark", behind),
    ]


def while_orders(builder, row):
    again = builder.new_mark()
    behind = builder.new_mark()
    return [
        ("mark", again), ("step", ("loop",)), ("e", row[1]), ("step", ("branch", behind)),
        ("body", row[2]), ("step", ("jump", again)), ("mark", behind),
    ]


def try_orders(builder, row):
    # A fault lies alone on the pile when it is taken, so a let gives it to the name.
    taken = builder.new_mark()
    behind = builder.new_mark()
    return [
        ("guard", taken), ("body", row[1]), ("unguard", None), ("step", ("jump", behind)),
        ("mark", taken), ("step", ("let", row[2])), ("body", row[3]), ("mark", behind),
    ]


def row_orders(builder, row):
    """What is to be laid for a row, in order."""
    if row[0] == "when":
        return when_orders(builder, row)
    if row[0] == "while":
        return while_orders(builder, row)
    if row[0] == "try":
        return try_orders(builder, row)
    return [("e", row[-1]), ("step", row[:-1])]


def e_orders(e):
    """What is to be laid for an e, in order."""
    if e[0] == "ask":
        return [("e", part) for part in (e[1], *e[3])] + [("step", ("ask", e[2], len(e[3])))]
    if e[0] == "elder":
        return [("e", part) for part in e[2]] + [("step", ("elder", e[1], len(e[2])))]
    if e[0] in PAIRS:
        return [("e", e[1]), ("e", e[2]), ("step", (e[0],))]
    return [("step", e)]


def steps_of(body):
    """The steps of a body and where their faults are taken; the last ones end it with None."""
    builder = Builder()
    waiting = [("step", ("give",)), ("step", ("value", None)), ("body", body)]
    while waiting:
        what, part = waiting.pop()
        if what == "body":
            waiting.extend([("row", row) for row in part[::-1]])
        elif what == "row":
            waiting.extend(row_orders(builder, part)[::-1])
        elif what == "e":
            waiting.extend(e_orders(part)[::-1])
        else:
            builder.lay(what, part)
    return builder.finished()


class Way:
    """What is done for a word: the names of what is given, the body and its steps. It is never changed."""

    def __init__(self, names, body):
        self.names = names
        self.body = body
        self.steps, self.catches = steps_of(body)
