"""Tests of fewturns."""
