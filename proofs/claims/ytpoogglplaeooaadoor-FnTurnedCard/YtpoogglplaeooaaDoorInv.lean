/- Proved: contracts of InvMod, of the program and of the model: both answer the inverse by Euclid, 0 where there is none or the modulus is out of bounds. -/
import Derived.Test.YtpoogglplaeooaaDoorRows
import Derived.WalkKit
import Derived.ProofKit
import Derived.OpenShut
import Derived.Test.YtpoogglplaeooaaDoorTb01
