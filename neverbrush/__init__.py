"""Neverbrush: roads through a city that never brush."""
