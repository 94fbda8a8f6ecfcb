"""Programs compared with one another, and with posts left out."""
