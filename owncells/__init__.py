"""Owncells: rounds of loops dealt so that nothing is sent."""
