"""Pairs of programs, of which the second one follows the first one."""
