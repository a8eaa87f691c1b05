"""Pairhues: pairs between two sides, each with a hue."""
