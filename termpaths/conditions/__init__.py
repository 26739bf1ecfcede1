"""Conditions on the values at the entry of a program."""
