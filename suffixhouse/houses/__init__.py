"""Houses that change."""
