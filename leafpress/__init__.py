"""Leafpress: books of boxes, laid on leaves."""
