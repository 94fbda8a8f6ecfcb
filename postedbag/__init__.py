"""Postedbag: what tasks that post tasks can come to, in any order."""
