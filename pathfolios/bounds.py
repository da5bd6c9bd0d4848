"""Things that bound others."""

# The TEST that each DOCUMENT MEETS.
NONE_BUT = ("and", ())
