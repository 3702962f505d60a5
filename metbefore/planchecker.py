"""Looks at any thing as a plan of two hands."""

from metbefore.sayings import behind_plan, free_to


def lets_plan(book, door, guest, thing):
    """How many are free to door and guest behind it, where it is a plan; else NoPaper."""
    return free_to(behind_plan(book, door, guest, thing), door, guest)
