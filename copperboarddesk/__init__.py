"""Pieces of copper on the layers of a board, and what is joined by touching."""
