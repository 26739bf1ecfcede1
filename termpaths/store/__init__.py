"""A store of programs and of what is asserted of them."""
