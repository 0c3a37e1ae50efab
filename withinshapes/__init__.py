"""Withinshapes: mean pays led into a shape, whatever is answered."""
