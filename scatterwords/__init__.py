"""Scatterwords: words with endless stretches, formulas about them, and steps that rewrite them."""
