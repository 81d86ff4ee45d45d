"""Movedwhole: a cluster led to another placing, each piece whole at every moment."""
