"""Roundsides: rings of sides between two curves, reckoned in whole numbers and exact fractions."""
