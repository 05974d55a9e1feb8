"""Startnow: plans that are decided while they run."""
