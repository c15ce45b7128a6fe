"""Lentbeside: what must lie beside so that a trade can be done."""
