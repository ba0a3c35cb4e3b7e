"""Breadcrumbs: trails of visited pages."""
