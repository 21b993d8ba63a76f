"""Dotmoor: straight strokes laid on whole points, and the fields between them."""
