"""Cardplaces: books of places gone to."""
