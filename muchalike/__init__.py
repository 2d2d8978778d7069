"""Sets that have much in common, all found and few held against one another."""
