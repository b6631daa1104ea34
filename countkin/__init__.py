"""Countkin: ten families told by a size, numbered, and led into one another."""
