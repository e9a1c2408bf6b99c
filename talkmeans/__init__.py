"""Talkmeans: talks after which all agree."""
