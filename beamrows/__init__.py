"""Beamrows: a small machine whose picture is drawn by a beam."""
