"""Grids, their places and the ways on them."""
