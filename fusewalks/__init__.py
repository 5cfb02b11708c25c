"""Fusewalks: several walks over a tree run as one."""
