"""Barlabel: texts in bars, written, printed, scanned and gathered."""
