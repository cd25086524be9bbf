"""What a log of hits and misses says about a shelf."""
