"""Veilsum: hands that reckon together on numbers that none of them may see."""
