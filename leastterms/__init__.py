"""Leastterms: switch functions by fewest terms."""
