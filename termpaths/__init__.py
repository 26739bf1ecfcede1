"""Termpaths: which terms are equal at each point of a program, on all paths."""
