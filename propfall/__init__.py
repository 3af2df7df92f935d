"""Propfall: boards on props that give way."""
