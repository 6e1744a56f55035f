"""Ontheline: rankings, the lines on which they fall, and what bars any line."""
