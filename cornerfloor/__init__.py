"""Cornerfloor: square floors with one place left out, covered by pieces of three around a corner."""
