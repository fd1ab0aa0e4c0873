"""Leastrooms: how much room each channel needs, exactly."""
