"""Bounds that are true for every n."""
