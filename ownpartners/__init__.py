"""Ownpartners: books of rows, their partners, and the books that are their own partners."""
