"""Webs of ties, and one polynomial that counts many things of them."""
