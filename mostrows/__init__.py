"""Mostrows: how many rows stand in all of these tables."""
