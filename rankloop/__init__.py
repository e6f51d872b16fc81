"""Rankloop: an event loop by ranks."""
