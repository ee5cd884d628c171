"""Sums: boxes, the first so many numbers, and how far by streets."""
