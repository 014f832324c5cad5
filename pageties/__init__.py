"""Pageties: ties above places in a row, laid on few pages."""
