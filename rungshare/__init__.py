"""Rungshare: a share told by its moments, on one ladder of fractions."""
