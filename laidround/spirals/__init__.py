"""Spirals: places, neighbours and rings, runs and rays."""
