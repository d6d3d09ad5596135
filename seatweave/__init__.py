"""Seatweave: seats dealt to places and to parties at once."""
