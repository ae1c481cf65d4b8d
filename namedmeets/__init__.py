"""Namedmeets: programs that any machines run, fall and join. Each module is imported by its own name."""
