"""Loaves told by shares of flour."""
