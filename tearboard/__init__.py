"""Tearboard: notes torn off pads by figures that bar one another."""
