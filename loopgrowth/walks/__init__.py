"""Walks through a graph: step by step, and written down as recipes."""
