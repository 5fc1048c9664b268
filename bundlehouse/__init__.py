"""Bundlehouse: parts of programs packed for sending."""
