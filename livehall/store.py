"""What a hall has, in tables of rows.

Rows are never changed in place, only exchanged for others. So what a deed has changed is told by the rows that
stood there before, and can be turned back and forth.
"""


class Kind:
    """A row for a kind: its name, the number of its elder, its own fields and ways; `thing` has no elder."""

    def __init__(self, name, elder, own, weak, ways):
        self.name = name
        self.elder = elder
        self.own = own
        self.weak = weak
        self.ways = ways


def lay_row(rows, key, row):
    """Puts the row there; None takes away what is there."""
    if row is not None:
        rows[key] = row
    elif key in rows:
        del rows[key]


class Store:
    """The tables of a hall, and what was changed in them since this was last asked.

    Kinds are known by numbers, as runs go on while kinds are renamed. The row of a thing is the number of its kind
    and a dict of its fields; that of a held name is its value alone in a tuple.
    """

    def __init__(self):
        self.kind_rows = {0: Kind("thing", None, (), (), {})}
        self.kind_numbers = {"thing": 0}
        self.thing_rows = {}
        self.held_rows = {}
        self.run_rows = {}
        self.next_numbers = {"kind": 1, "thing": 0, "run": 0}
        self.tables = {
            "kind": self.kind_rows,
            "kind name": self.kind_numbers,
            "thing": self.thing_rows,
            "held": self.held_rows,
            "run": self.run_rows,
            "next": self.next_numbers,
        }
        self.changes = {}

    def write(self, table, key, row):
        """From now on this row is there; none, if it is None."""
        rows = self.tables[table]
        self.changes.setdefault((table, key), rows.get(key))
        lay_row(rows, key, row)

    def new_number(self, table):
        """A number that no row of the table ever had."""
        number = self.next_numbers[table]
        self.write("next", table, number + 1)
        return number

    def take_changes(self):
        """The rows that stood where something was changed since this was last asked."""
        changes = self.changes
        self.changes = {}
        return changes

    def turn(self, changes):
        """Puts these rows back; told are those that turn it all again."""
        turned = {}
        for (table, key), row in changes.items():
            rows = self.tables[table]
            turned[(table, key)] = rows.get(key)
            lay_row(rows, key, row)
        return turned
