"""Livehall: a hall of things whose kinds are changed while they live."""
