"""A small language of loops."""
