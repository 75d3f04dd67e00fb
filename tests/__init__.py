"""Tests of beamrows."""
