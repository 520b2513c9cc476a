"""Bestodds: least and greatest chances and costs, exactly and with certificates."""
