"""Finite models of the operators."""
