"""What lists that were read in pieces show; import everything from the modules of this package."""
