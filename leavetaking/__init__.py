"""Leavetaking: what is sure of an evening at an inn."""
