"""Reserves: capacity bought, then called."""
