"""Questions about the values after all runs to a point."""
