"""Process trees that are wired by descriptors, and why they hang."""
