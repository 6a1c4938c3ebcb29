/-
  Package codec, as landed: the contracts of its two types; the laws' walks out of them.
-/
import Derived.Test.YtdfgdpgffblbpaaCdE
import Derived.Test.YtdfgdpgffblbpaaCdH
import Derived.Test.YtdfgdpgffblbpaaCdA
import Derived.Test.YtdfgdpgffblbpaaCdR
import Derived.Test.YtdfgdpgffblbpaaCdY
namespace Go.Proofs.Ytdfgdpgffblbpaa
end Go.Proofs.Ytdfgdpgffblbpaa
