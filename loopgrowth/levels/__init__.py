"""What the levels of a graph are made of."""
