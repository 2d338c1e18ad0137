"""The project's own tests."""
