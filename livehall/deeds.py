"""Deeds, told by their words and all that is handed in."""

from livehall.kinds import KIND_DEEDS
from livehall.reach import SWEEP_DEEDS
from livehall.runs import RUN_DEEDS
from livehall.things import THING_DEEDS
from livehall.values import is_whole
from livehall.ways import WAY_DEEDS

# Of what is handed in: what a deed itself refuses, if it is not as it must be, is "any".
FORMS = {
    "make_kind": ("any", "any", "row", "row"),
    "reshape": ("any", "row", "row", "pairs"),
    "move_kind": ("any", "any"),
    "rename_kind": ("any", "any"),
    "drop_kind": ("any",),
    "set_way": ("any", "any", "any", "row"),
    "drop_way": ("any", "any"),
    "make": ("any",),
    "put": ("any", "any", "any"),
    "hold": ("any", "any"),
    "let_go": ("any",),
    "swap": ("any", "any"),
    "forward": ("any", "any"),
    "start": ("any", "any", "row"),
    "end": ("any",),
    "go": ("any", "whole"),
    "give": ("any", "any"),
    "answer": ("any", "any"),
    "fault": ("any", "any"),
    "redo": ("any", "whole"),
    "sweep": (),
}


def perform(store, word, values):
    """Does the deed; told is what it tells."""
    if word in KIND_DEEDS:
        action = KIND_DEEDS[word]
    elif word in WAY_DEEDS:
        action = WAY_DEEDS[word]
    elif word in THING_DEEDS:
        action = THING_DEEDS[word]
    elif word in RUN_DEEDS:
        action = RUN_DEEDS[word]
    else:
        action = SWEEP_DEEDS[word]
    return action(store, *values)


def is_pair(thing):
    return isinstance(thing, tuple) and len(thing) == 2


def has_form(form, thing):
    if form == "whole":
        return is_whole(thing)
    if form == "row":
        return isinstance(thing, tuple)
    if form == "pairs":
        return isinstance(thing, tuple) and all([is_pair(part) for part in thing])
    return True


def is_deed(thing):
    """Whether it has the form of a deed, as it is told; it may still be refused."""
    if not is_pair(thing) or not isinstance(thing[0], str) or not isinstance(thing[1], tuple):
        return False
    forms = FORMS.get(thing[0])
    if forms is None or len(forms) != len(thing[1]):
        return False
    return all([has_form(form, part) for form, part in zip(forms, thing[1])])
