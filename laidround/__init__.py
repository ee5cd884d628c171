"""Laidround: numbers laid round in a spiral."""
