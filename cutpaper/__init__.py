"""Rows of yes and no, and papers that show what cannot be."""
