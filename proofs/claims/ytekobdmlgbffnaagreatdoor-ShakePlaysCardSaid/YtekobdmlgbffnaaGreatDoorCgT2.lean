/- config.Print: its contract. (Written by gen_cgt2.py.) -/
import Derived.Test.YtekobdmlgbffnaaGreatDoorG17
import Derived.Test.YtekobdmlgbffnaaGreatDoorG10
import Derived.Test.YtekobdmlgbffnaaGreatDoorG11
import Derived.Test.YtekobdmlgbffnaaGreatDoorG3
import Derived.BigRegion
namespace Go.Proofs.YtekobdmlgbffnaaGreatDoor
set_option linter.unusedVariables false
set_option maxRecDepth 100000
set_option linter.unusedSimpArgs false
open Go.RowKit

theorem Bx.drew {w u : World} {g : Nat} {t : TypeId} {cs : Array Value} (h : Bx w g t cs u) : Bx w g t cs u.drew := ⟨h.b.drew, h.l.drew⟩
/-- What Print wants of a tenant's lines. -/
structure TnP (t : Tn) : Prop where
  ten : (lineT (tenW t)).length ≤ 326
  nets : ∀ n ∈ t.nets, (lineT (netW n)).length ≤ 326
  toks : ∀ k ∈ t.toks, (lineT (tokW k)).length ≤ 326
  a : 0 ≤ t.names ∧ t.names ≤ 1099511627776
  b : 0 ≤ t.visitors ∧ t.visitors ≤ 1099511627776
  k : ∀ k ∈ t.toks, (0 ≤ k.till ∧ k.till ≤ 1099511627776) ∧ k.sec.size ≤ 1099511627776
end Go.Proofs.YtekobdmlgbffnaaGreatDoor
