"""Rules over columns, and what follows from them."""
