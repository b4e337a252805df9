"""Linepress: pieces set in lines, the best way there is."""
