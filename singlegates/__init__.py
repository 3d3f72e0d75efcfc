"""Singlegates: a railway's traffic office that need not look ahead."""
