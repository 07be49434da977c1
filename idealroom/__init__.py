"""Idealroom: sums of multiples of polynomials, found within a room."""
