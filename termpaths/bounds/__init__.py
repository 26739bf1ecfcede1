"""Bounds of the heights of values."""
