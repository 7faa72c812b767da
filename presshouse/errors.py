"""The refusals of presshouse: one class for each kind of failure."""


class PressError(ValueError):
    """What every refusal of presshouse is."""


class BadBytes(PressError):
    """No bytes, or too many of them."""


class BadHex(PressError):
    """No text that tells bytes by signs."""


class BadLengths(PressError):
    """No lengths, or lengths that are not good."""


class BadWeights(PressError):
    """No weights, or none above 0."""


class BadBound(PressError):
    """No bound, or one too small for the letters."""


class BadPrices(PressError):
    """No prices."""


class BadItems(PressError):
    """No row of items; `at` tells the first that is none, None what is no list."""

    def __init__(self, at):
        super().__init__(f"no row of items, seen at {at}")
        self.at = at


class BadStep(PressError):
    """No step, or one too small for the bytes."""


class BadStream(PressError):
    """A stream that slips; `bit` tells where."""

    def __init__(self, bit):
        super().__init__(f"the stream slips at bit {bit}")
        self.bit = bit


class BadDifference(PressError):
    """No difference, or one that does not fit."""


class BadFiles(PressError):
    """No files for a pack."""


class BadPack(PressError):
    """No pack."""


class BadName(PressError):
    """A name of none of a pack's files."""
