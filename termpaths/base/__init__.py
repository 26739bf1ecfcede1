"""Terms, and what the other parts of the package share."""
