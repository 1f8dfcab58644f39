"""Chalkcave: dark galleries charted by chalk marks."""
