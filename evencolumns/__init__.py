"""Evencolumns: lines of cells whose neighbouring cells get one width."""
