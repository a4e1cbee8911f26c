"""Editors apart: changes drafted apart, accepted, and taken back."""
