"""Works within works told how far they are."""
