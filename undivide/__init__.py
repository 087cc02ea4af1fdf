"""Undivide: reckonings by rows, made anew in other forms."""
