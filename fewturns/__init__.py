"""Fewturns: ways on a grid with few turns."""
