"""Boughwebs: tables of numbers along the arrows of a net, and what all of them are made of."""
