"""Metbefore: hands known by having been there, and what sums said aloud bring two of them."""
