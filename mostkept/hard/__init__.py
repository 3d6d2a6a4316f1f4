"""Rules without a chain: the small problems in them, bounds by halves, and searches."""
