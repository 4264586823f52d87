"""What the lines that change a desk's survey do, and what they write."""


def _do_put(survey, things):
    """Put a question behind the others, and tell the degree in which the least space grew."""
    name, question = things
    before = _degree_sum(survey)
    survey.put(name, question)
    return [f"put {name}: degree {_degree_sum(survey) - before}"]


def _do_take(survey, things):
    """Take a question out, and tell the degree in which the least space became smaller."""
    name = things[0]
    before = _degree_sum(survey)
    survey.take(name)
    return [f"take {name}: degree {before - _degree_sum(survey)}"]


def _do_tell(survey, things):
    """Set a told answer."""
    name, number = things
    survey.tell(name, number)
    return [f"tell {name}: {number}"]


def _do_forget(survey, things):
    """Take a told answer back."""
    name = things[0]
    survey.tell(name, None)
    return [f"forget {name}"]


def _do_shift(survey, things):
    """Move all spots."""
    survey.shift(things[0])
    return ["shift"]


def _do_undo(survey, things):
    """Take the last deed back."""
    survey.undo()
    return ["undo"]


def _do_redo(survey, things):
    """Do the deed again that was taken back last."""
    survey.redo()
    return ["redo"]


def _degree_sum(survey):
    """The sum of the degrees of the members of the least space."""
    # One question more or less makes one member more or less, and leaves the numbers of those of other degrees.
    return sum([member.degree for member in survey.least()])


DEEDS = {
    "put": _do_put,
    "take": _do_take,
    "tell": _do_tell,
    "forget": _do_forget,
    "shift": _do_shift,
    "undo": _do_undo,
    "redo": _do_redo,
}
