"""Rows of integers and scales of weights, on which all else stands."""
