/-
  'chequerlaw3.AddrBack', walked.
-/
import Derived.Test.YtocoldcgnppfhaaDoorAddrN
import Derived.Test.YtocoldcgnppfhaaDoorAddrY
namespace Go.Proofs.YtocoldcgnppfhaaDoor
open Go.RowKit

theorem addrBack_any (a b c d f g : Int) (ha : 0 ≤ a ∧ a ≤ 65535) (hb : 0 ≤ b ∧ b ≤ 65535) (hc : 0 ≤ c ∧ c ≤ 65535) (hd : 0 ≤ d ∧ d ≤ 65535) (hf : 0 ≤ f ∧ f ≤ 255) (hg : 0 ≤ g ∧ g ≤ 255) (w : World) (ht : Tab w) :
    Calls Tryd.prog 4 #[.int .u16 a, .int .u16 b, .int .u16 c, .int .u16 d, .int .u8 f, .int .u8 g] w fun e w' => e = .returned (.bool true) ∧ Below w.heap.size w w' :=
  addrBack_law (fun s c r ac ar w hs h => textP_any s c r ac ar w h hs) may_any read_any awake_any a b c d f g ha hb hc hd hf hg w ht
end Go.Proofs.YtocoldcgnppfhaaDoor
