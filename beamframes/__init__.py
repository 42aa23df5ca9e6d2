"""Beamframes: frames of pulses and gaps, read within tolerances."""
