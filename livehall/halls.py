"""Halls: things, each of a kind, and all that is done and told there."""

from livehall.deeds import perform
from livehall.errors import HallError, NoBack
from livehall.lines import (
    heir_numbers, kind_names, kind_number, line_fields, line_numbers, line_weak, numbers_below, things_of,
)
from livehall.reach import kept_by, shortest_path
from livehall.runs import frames_told, state_told, waits_told
from livehall.store import Store
from livehall.things import field_told, held_told, kind_told
from livehall.values import same
from livehall.ways import asking_ways, found_kind, found_words, unheard_words, way_told


class Hall:
    """A hall. Its past is the deeds that were done, each with what turns it back; its future those taken back."""

    def __init__(self):
        self.store = Store()
        self.past = []
        self.future = []

    def __eq__(self, other):
        if not isinstance(other, Hall):
            return False
        return same(self.deeds(), other.deeds()) and same(self.undone(), other.undone())

    def __len__(self):
        return len(self.store.thing_rows)

    def __str__(self):
        return f"{len(self.store.kind_rows)} kinds, {len(self)} things, {len(self.store.run_rows)} runs"

    def make_kind(self, name, *, elder="thing", fields=(), weak=()):
        """Makes a kind with these fields of its own, some of them weak."""
        return self.do("make_kind", (name, elder, fields, weak))

    def kinds(self):
        """The names of all kinds, as they were made."""
        return kind_names(self.store, sorted(self.store.kind_rows))

    def line(self, kind):
        """The kind, its elder, and so on up to `thing`."""
        return kind_names(self.store, line_numbers(self.store, kind_number(self.store, kind)))

    def heirs(self, kind):
        """The kinds of which it is the elder, as they were made."""
        return kind_names(self.store, heir_numbers(self.store, kind_number(self.store, kind)))

    def fields_of(self, kind):
        """The fields of all its line, those of `thing` first."""
        return tuple(line_fields(self.store, kind_number(self.store, kind)))

    def weak_of(self, kind):
        """The weak ones of its fields."""
        return tuple(line_weak(self.store, kind_number(self.store, kind)))

    def reshape(self, kind, *, add=(), drop=(), rename=()):
        """Changes its own fields; all its things, and those of its heirs, have it so at once."""
        return self.do("reshape", (kind, add, drop, rename))

    def move_kind(self, kind, elder):
        """Gives it another elder."""
        return self.do("move_kind", (kind, elder))

    def rename_kind(self, kind, name):
        """Gives it another name, in all ways that make things of it too."""
        return self.do("rename_kind", (kind, name))

    def drop_kind(self, kind):
        """Takes a kind away that nothing needs."""
        return self.do("drop_kind", (kind,))

    def set_way(self, kind, word, body, *, names=()):
        """Sets what things of the kind do when they are asked the word."""
        return self.do("set_way", (kind, word, body, names))

    def drop_way(self, kind, word):
        """Takes its own way of the word away."""
        return self.do("drop_way", (kind, word))

    def way_of(self, kind, word):
        """The names and the body of its own way of the word."""
        return way_told(self.store, kind, word)

    def found(self, kind, word):
        """The first kind of its line that has a way of the word; None."""
        return found_kind(self.store, kind, word)

    def words(self, kind):
        """All words for which a way is found, rising."""
        return found_words(self.store, kind)

    def askers(self, word):
        """Rising pairs of kind and word of all ways that ask the word."""
        return asking_ways(self.store, word)

    def unheard(self, kind):
        """The words that its own ways ask of self, and for which no way is found, rising."""
        return unheard_words(self.store, kind)

    def make(self, kind):
        """Makes a thing, and tells it."""
        return self.do("make", (kind,))

    def kind_of(self, thing):
        """The kind of a thing."""
        return kind_told(self.store, thing)

    def get(self, thing, field):
        """What the field of the thing has."""
        return field_told(self.store, thing, field)

    def put(self, thing, field, value):
        """Gives the field of the thing the value."""
        return self.do("put", (thing, field, value))

    def things(self):
        """The numbers of all things, rising."""
        return tuple(sorted(self.store.thing_rows))

    def all_of(self, kind, *, below=False):
        """The numbers of the things of the kind, and of its heirs down to the last if below is True, rising."""
        number = kind_number(self.store, kind)
        return tuple(things_of(self.store, numbers_below(self.store, number) if below is True else [number]))

    def hold(self, name, value):
        """Lets the name lead to the value."""
        return self.do("hold", (name, value))

    def let_go(self, name):
        """Lets the name lead to nothing."""
        return self.do("let_go", (name,))

    def held(self):
        """Rising pairs of name and value."""
        return held_told(self.store)

    def swap(self, one, other):
        """Lets all that leads to one of both lead to the other."""
        return self.do("swap", (one, other))

    def forward(self, one, other):
        """Lets all that leads to the one lead to the other; the one is gone."""
        return self.do("forward", (one, other))

    def start(self, value, word, values=()):
        """Starts a run that is to ask the value the word, and tells its number."""
        return self.do("start", (value, word, values))

    def runs(self):
        """The numbers of all runs, rising."""
        return tuple(sorted(self.store.run_rows))

    def end(self, run):
        """Takes the run away."""
        return self.do("end", (run,))

    def go(self, run, *, beats=1):
        """Does so many times what the run halts ahead of, and tells its state."""
        return self.do("go", (run, beats))

    def state(self, run):
        """Whether the run is halted, done or failed, the last two with a value."""
        return state_told(self.store, run)

    def waits(self, run):
        """What the run halts ahead of; None if it has ended."""
        return waits_told(self.store, run)

    def frames(self, run):
        """The ways that have begun and not ended, the last one first."""
        return frames_told(self.store, run)

    def give(self, run, value):
        """Ends the last way that has begun with the value."""
        return self.do("give", (run, value))

    def answer(self, run, value):
        """Answers the ask that the run halts ahead of."""
        return self.do("answer", (run, value))

    def fault(self, run, value):
        """Puts a fault there where the run halts."""
        return self.do("fault", (run, value))

    def redo(self, run, *, frame=0):
        """Lets the run halt ahead of the ask by which a way has begun."""
        return self.do("redo", (run, frame))

    def sweep(self):
        """Takes all things away to which nothing leads, and tells their numbers, rising."""
        return self.do("sweep", ())

    def path_to(self, thing):
        """One of the shortest ways by which something leads to the thing; None."""
        return shortest_path(self.store, thing)

    def keeps(self, thing):
        """The numbers, rising, of the thing and all to which nothing would lead without it."""
        return kept_by(self.store, thing)

    def carry_out(self, word, values):
        """Does a deed, but leaves what can be done again as it is."""
        told = perform(self.store, word, values)
        self.past.append(((word, values), self.store.take_changes()))
        return told

    def do(self, word, values):
        """Does a deed; nothing can be done again then."""
        told = self.carry_out(word, values)
        self.future.clear()
        return told

    def take_back(self):
        """Takes the last deed back; told is it, with what turns it forth."""
        deed, changes = self.past.pop()
        return deed, self.store.turn(changes)

    def deeds(self):
        """All deeds that were done and not taken back, in order."""
        return tuple([deed for deed, changes in self.past])

    def undone(self):
        """All deeds that can be done again, the next one first."""
        return tuple([deed for deed, changes in self.future[::-1]])

    def back(self):
        """Takes the last deed back, and tells its word."""
        if not self.past:
            raise NoBack("there is no deed to take back")
        deed, changes = self.take_back()
        self.future.append((deed, changes))
        return deed[0]

    def again(self):
        """Does again what was taken back last, and tells its word."""
        if not self.future:
            raise NoBack("there is no deed to do again")
        deed, changes = self.future.pop()
        self.past.append((deed, self.store.turn(changes)))
        return deed[0]

    def counts(self):
        """How many deeds can be taken back, and done again."""
        return len(self.past), len(self.future)

    def together(self, deeds):
        """Does all of these deeds or none, and tells what each tells."""
        before = len(self.past)
        told = []
        try:
            for word, values in deeds:
                told.append(self.carry_out(word, values))
        except HallError:
            while len(self.past) > before:
                self.take_back()
            raise
        if told:
            self.future.clear()
        return tuple(told)
