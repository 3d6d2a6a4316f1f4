"""Tables of weighted rows."""
