"""Rollcall: who meets whom, and what shows that nobody could do better."""
