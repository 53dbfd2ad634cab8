"""Stakefield: fields spanned by stakes at whole points."""
