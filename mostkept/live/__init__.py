"""Advice on rules, and live tables, whose edits can be taken back."""
