"""Graphs of loops, and what can be told of their parts."""
