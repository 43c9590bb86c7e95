"""Ways counted."""
