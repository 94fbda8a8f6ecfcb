"""Words, bags and programs: what everything else is built of."""
