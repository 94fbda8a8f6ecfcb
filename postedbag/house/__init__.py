"""Projects: programs that change and keep their promises."""
