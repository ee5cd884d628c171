"""Other spirals: longer arms, and two spirals side by side."""
