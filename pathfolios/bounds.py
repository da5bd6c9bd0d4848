"""Things that bound others."""

# The TEST that each DOCUMENT MEETS.
NONE_BUT = ("and", ())

# What STANDS where nothing does: what each LOG begins at.
NOTHING = ((), (), ())
