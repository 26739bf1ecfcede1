"""Tables: what is known of the values at each point of a program."""
