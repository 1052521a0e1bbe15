"""Sizeladders: sizes of several lands led to one another, reckoned exactly."""
