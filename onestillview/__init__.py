"""Onestillview: walkers who look, think and step each in its own time, as if in beats."""
