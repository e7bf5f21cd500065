"""Odds: hands and draws from a deck, exactly."""
