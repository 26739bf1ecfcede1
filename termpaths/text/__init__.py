"""Texts of values, and a shell whose commands are texts."""
