"""Downtoground: sentences settled by finitely many plain instances."""
