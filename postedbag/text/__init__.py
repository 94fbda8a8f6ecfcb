"""Programs as texts."""
