"""Logs done again."""

from metbefore.worlds import World


def replayed(log):
    """A new world at which the rows of the log were done; the first refusal comes."""
    world = World(log[0][2], room=log[0][1])
    world.do_all(log[1:])
    return world
