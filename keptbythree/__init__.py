"""Keptbythree: solution sets as canonical certificates."""
