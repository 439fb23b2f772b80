"""Endings with all cards seen: who can make what, and who gave what away."""
