"""Boardheld: a board held from outside."""
