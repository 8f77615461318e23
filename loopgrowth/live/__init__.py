"""Graphs that are edited step by step."""
