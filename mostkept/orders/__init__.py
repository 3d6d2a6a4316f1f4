"""Chains of steps, by which greatest keeps are found, and witnesses that there is none."""
