"""Notes: what has been worked out about a program, by what was asked."""


def noted(notes, name, most):
    """The dict that some notes have under a name; it is emptied before it has more than the most entries."""
    kept = notes.setdefault(name, {})
    if len(kept) >= most:
        kept.clear()
    return kept
