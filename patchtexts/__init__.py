"""Trees, steps and rows of steps as texts."""
