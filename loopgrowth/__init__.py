"""Loopgrowth: how fast a loop of counters grows."""
