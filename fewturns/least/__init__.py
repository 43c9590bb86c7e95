"""The least turns between places, and what hangs on them."""
