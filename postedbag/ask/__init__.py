"""Questions about programs, and the papers that answer them."""
