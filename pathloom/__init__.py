"""Pathloom: paths over trees, stylesheets, and what holds on every document."""
