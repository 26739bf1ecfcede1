"""Patterns: values for names, and how patterns are compared, joined and solved."""
