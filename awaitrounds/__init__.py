"""Awaitrounds: what programs with awaits do in one callback queue."""
