"""Many hands make, move and drop drawers within drawers, and look without locks."""
