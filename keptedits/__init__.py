"""Keptedits: documents that programs of many versions read, change and write back."""
