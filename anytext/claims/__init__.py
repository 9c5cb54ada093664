"""Claims about programs, and papers that show that they hold."""
