"""Plans, bars and tops: what rows of tasks can come to."""
