"""Programs that compute less and give the same."""
