"""Fieldclaim: points of a field claimed in turn, and who gets a whole line."""
