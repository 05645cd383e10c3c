"""The tests of owncells."""
