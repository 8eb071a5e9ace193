"""How much a store may have of each thing."""

PAGES = 60
FILES = 24
FOLDERS = 12
OWNERS = 10
