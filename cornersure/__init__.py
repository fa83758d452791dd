"""Cornersure: numbers known within stretches."""
