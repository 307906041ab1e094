"""Widerkeys: numbers of rows made wider while elder and newer programs run."""
