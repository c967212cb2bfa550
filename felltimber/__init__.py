"""Books of rules by which trees fall and grow again, and how far each can fall."""
