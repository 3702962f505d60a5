"""How many things are told at the most, where a call doesn't say it."""

MOST = 4096
