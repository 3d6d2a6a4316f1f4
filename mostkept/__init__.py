"""Mostkept: the least rows to take out of a table until its column rules hold."""
