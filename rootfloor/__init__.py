"""Rootfloor: sayings about whole numbers and floors of multiples by a root."""
