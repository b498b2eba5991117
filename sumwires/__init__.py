"""Sumwires: nets of sums and one-turn stores."""
