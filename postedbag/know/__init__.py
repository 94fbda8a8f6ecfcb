"""Ways, their uses and their gains: all that single tasks can do."""
