/- config.Print: its contract. (Written by gen_cgt2.py.) -/
import Derived.Test.YtijboiepockmjaaDoorG15
import Derived.Test.YtijboiepockmjaaDoorCg3
import Derived.Test.YtijboiepockmjaaDoorG12
import Derived.Test.YtijboiepockmjaaDoorSyn9
import Derived.BigRegion
namespace Go.Proofs.YtijboiepockmjaaDoor
set_option linter.unusedVariables false
set_option maxRecDepth 100000
set_option linter.unusedSimpArgs false
open Go.RowKit

theorem Bx.drew {w u : World} {g : Nat} {t : TypeId} {cs : Array Value} (h : Bx w g t cs u) : Bx w g t cs u.drew := ⟨h.b.drew, h.l.drew⟩
theorem Bx.alloc1 {w u : World} {g : Nat} {t : TypeId} {cs : Array Value} (h : Bx w g t cs u) (o : Obj) : Bx w g t cs (u.alloc o) := h.on ((Below.refl _ _).alloc (Nat.le_refl _) _)
theorem dec_w (a : Int) (h0 : 0 ≤ a) (h1 : a ≤ 1099511627776) (u : World) : Calls Tryd.prog 88 #[.int .i64 a] u fun e u' => e = .returned (.string (bs (decB a.toNat))) ∧ Below u.heap.size u u' := by
  have := dec_ok a.toNat u (by omega)
  rwa [show ((a.toNat : Nat) : Int) = a by omega] at this
theorem cat_fits {S R X T : List UInt8} (h : S ++ (R ++ X) = T) (hT : T.length ≤ 23798) : S.length + R.length ≤ 9223372036854775807 := by
  have := congrArg List.length h
  rw [List.length_append, List.length_append] at this
  omega
theorem cat_on {S R X T : List UInt8} (h : S ++ (R ++ X) = T) : (S ++ R) ++ X = T := by rw [List.append_assoc]; exact h
theorem line_t {ls : List (List (List UInt8))} {S Y T : List UInt8} {ws : List (List UInt8)} (h : S ++ (textT (ws :: ls) ++ Y) = T) : S ++ (lineT ws ++ (textT ls ++ Y)) = T := by rw [textT_cons, List.append_assoc] at h; exact h

/-- What Print wants of a tenant's lines. -/
structure TnP (t : Tn) : Prop where
  ten : (lineT (tenW t)).length ≤ 326
  nets : ∀ n ∈ t.nets, (lineT (netW n)).length ≤ 326
  toks : ∀ k ∈ t.toks, (lineT (tokW k)).length ≤ 326
  a : 0 ≤ t.names ∧ t.names ≤ 1099511627776
  b : 0 ≤ t.visitors ∧ t.visitors ≤ 1099511627776
  k : ∀ k ∈ t.toks, (0 ≤ k.till ∧ k.till ≤ 1099511627776) ∧ k.sec.size ≤ 1099511627776
theorem tnp_of {c : Cg} (h : cfgB c = true) {t : Tn} (ht : t ∈ c.tens) : TnP t := by
  obtain ⟨h1, _⟩ := cfg_short h
  obtain ⟨_, _, _, _, _, _, h7⟩ := cfgB_parts h
  obtain ⟨a1, a2, a3, a4, a5, a6, a7⟩ := tenB_parts (h7 t ht)
  have hin : ∀ ws ∈ tenLs t, (lineT ws).length ≤ 326 := fun ws hw => h1 ws (List.mem_cons_of_mem _ (List.mem_flatMap.2 ⟨t, ht, hw⟩))
  have q1 := quo_le a1
  have q2 := quo_le a2
  refine ⟨hin _ (by simp [tenLs]), fun n hn => hin _ (List.mem_cons_of_mem _ (List.mem_append.2 (.inl (List.mem_map.2 ⟨n, hn, rfl⟩)))), fun k hk => hin _ (List.mem_cons_of_mem _ (List.mem_append.2 (.inr (List.mem_map.2 ⟨k, hk, rfl⟩)))), by omega, by omega, fun k hk => ?_⟩
  have hkb := a7 k hk
  unfold tokB at hkb
  simp only [Bool.and_eq_true, decide_eq_true_eq] at hkb
  omega

end Go.Proofs.YtijboiepockmjaaDoor
