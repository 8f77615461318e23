"""Exact answers to systems of integers."""
