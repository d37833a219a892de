"""Pairtally: pairings of a web counted by size, and papers for their rows."""
