"""Keepsgoing: a controller's language, from its text to machines that never stop."""
