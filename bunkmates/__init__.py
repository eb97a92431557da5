"""Bunkmates: rooms of two, and whom each one would share one with."""
