"""Paintings whose corners are unknown numbers."""
