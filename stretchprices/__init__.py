"""Stretchprices: what prices of stretches of rows can know of a machine's time."""
