"""A paper of whether sayings can bring two hands more than so many."""

from metbefore.leastsides import least_sides
from metbefore.planning import plan_of


def more_paper(book, door, guest, *, than=0):
    """A plan that brings door and guest more than so many, or a side by which no more are held."""
    held, sides = least_sides(book, door, guest)
    if held > than:
        return "plan", plan_of(book, door, guest)
    return "side", sides[0]
