"""Firstbooks: each next number into the first book that can take it."""
