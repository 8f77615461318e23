"""Other graphs, made of graphs."""
