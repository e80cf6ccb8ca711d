/- What the calls of a book come to: who holds, epochs, times. -/
import Derived.Test.YtpbobmiajjgekaaLzD
namespace Go.Proofs.Ytpbobmiajjgekaa
set_option linter.unusedVariables false
set_option maxRecDepth 100000
set_option linter.unusedSimpArgs false
open Go.RowKit

/-- Claim: refused, and nothing turned; or granted. -/
def GrantL (g most : Int) (b : Bo) (ten s : ByteArray) (conn now ttl : Int) (x : Ls) : Prop :=
  x = ⟨s, ten, conn, b.nx, now + min ttl most, true⟩ ∧ nameB ten = true ∧ nameB s = true ∧ clkB now = true ∧ timB ttl = true ∧ (∀ y, fnL s b.l = some y → heL y now = false ∧ (y.ten = ten ∨ kpL g y now = false)) ∧ (fnL s b.l = none → b.l.length < 64)
theorem claim_cases (g most : Int) (b : Bo) (ten s : ByteArray) (conn now ttl : Int) :
    (∃ e, e ≠ 0 ∧ claimL g most b ten s conn now ttl = (zeroLs, e, b)) ∨ ∃ x, GrantL g most b ten s conn now ttl x ∧ claimL g most b ten s conn now ttl = (x, 0, ⟨ptL x b.l, b.nx + 1⟩) := by
  unfold claimL
  split
  · exact .inl ⟨1, by decide, rfl⟩
  · rename_i h0
    have h1 : (nameB ten && nameB s && clkB now && timB ttl) = true := by
      cases hq : (nameB ten && nameB s && clkB now && timB ttl) with
      | true => rfl
      | false => exact absurd hq h0
    simp only [Bool.and_eq_true] at h1
    obtain ⟨⟨⟨a1, a2⟩, a3⟩, a4⟩ := h1
    cases hf : fnL s b.l with
    | some y =>
      dsimp only
      split
      · exact .inl ⟨131, by decide, rfl⟩
      · rename_i h2
        split
        · exact .inl ⟨4, by decide, rfl⟩
        · rename_i h3
          refine .inr ⟨_, ⟨rfl, a1, a2, a3, a4, fun z hz => ?_, fun hh => by rw [hf] at hh; cases hh⟩, rfl⟩
          rw [hf] at hz
          injection hz with hz
          subst hz
          have h4 : heL y now = false := by simpa using h3
          refine ⟨h4, ?_⟩
          rw [h4, Bool.false_or] at h2
          cases hq : nmE y.ten ten with
          | true => exact .inl ((nmE_iff _ _).1 hq)
          | false => rw [hq] at h2; right; simpa using h2
    | none =>
      dsimp only
      split
      · exact .inl ⟨2, by decide, rfl⟩
      · rename_i h2
        exact .inr ⟨_, ⟨rfl, a1, a2, a3, a4, (fun z hz => by rw [hf] at hz; cases hz), fun _ => (by omega)⟩, rfl⟩
theorem own_cases {b : Bo} {ten s : ByteArray} {ep now : Int} (h : (ownL b ten s ep now).2 = 0) : ∃ x, x ∈ b.l ∧ x.name = s ∧ (ownL b ten s ep now).1 = x ∧ heL x now = true ∧ x.epoch = ep ∧ x.ten = ten := by
  obtain ⟨x, h1, h2, h3, h4, h5, _⟩ := own_zero h
  exact ⟨x, (fn_name h1).2, (fn_name h1).1, h2, h3, h4, h5⟩
theorem renew_cases (most : Int) (b : Bo) (ten s : ByteArray) (ep now ttl : Int) :
    (∃ e, e ≠ 0 ∧ renewL most b ten s ep now ttl = (zeroLs, e, b)) ∨ ∃ x y, y ∈ b.l ∧ y.name = s ∧ y.epoch = ep ∧ heL y now = true ∧ timB ttl = true ∧ x = { y with till := now + min ttl most } ∧ renewL most b ten s ep now ttl = (x, 0, ⟨ptL x b.l, b.nx⟩) := by
  unfold renewL
  split
  · exact .inl ⟨1, by decide, rfl⟩
  · rename_i ht
    split
    · rename_i h0
      obtain ⟨y, h1, h2, h3, h4, h5, h6⟩ := own_cases h0
      refine .inr ⟨_, y, h1, h2, h5, h4, by simpa using ht, rfl, ?_⟩
      rw [h3]
    · rename_i h0
      exact .inl ⟨_, h0, rfl⟩
theorem he_held {x : Ls} {now : Int} (h : heL x now = true) : x.held = true ∧ now < x.till := by
  unfold heL at h
  simpa using h
theorem held_ne {x : Ls} (h : x.held = true) : x ≠ zeroLs := fun e => by rw [e] at h; cases h
/-- Epochs are below the next one. -/
def EpL (b : Bo) : Prop := ∀ x ∈ b.l, x.epoch < b.nx
/-- What became of a call, as far as epochs go. -/
structure EpS (b : Bo) (o : Lo) (x : Ls) (er : Int) (b2 : Bo) : Prop where
  ep : EpL b2
  lo : b.nx ≤ b2.nx
  hi : b2.nx ≤ b.nx + 1
  rn : er = 0 → x ≠ zeroLs → o.what = 2 → x.epoch = o.ep ∧ x.epoch < b.nx ∧ b2.nx = b.nx
  cl : er = 0 → x ≠ zeroLs → o.what ≠ 2 → x.epoch = b.nx ∧ b2.nx = b.nx + 1 ∧ x.held = true ∧ o.now < x.till
  no : er ≠ 0 ∨ x = zeroLs → b2.nx = b.nx
  er : er ≠ 0 → x = zeroLs ∧ b2 = b
theorem ep_same {b b2 : Bo} {o : Lo} {er : Int} (h : EpL b) (hn : b2.nx = b.nx) (hl : ∀ y ∈ b2.l, ∃ z ∈ b.l, y.epoch = z.epoch) (he : er ≠ 0 → b2 = b) : EpS b o zeroLs er b2 :=
  ⟨fun y hy => by obtain ⟨z, hz, e⟩ := hl y hy; rw [e, hn]; exact h z hz, by omega, by omega, fun _ h1 => absurd rfl h1, fun _ h1 => absurd rfl h1, fun _ => hn, fun h1 => ⟨rfl, he h1⟩⟩
theorem ep_step {g most : Int} {b b2 : Bo} {o : Lo} {x : Ls} {er : Int} (hm : 1 ≤ most) (h : EpL b) (hR : doL g most b o = (x, er, b2)) : EpS b o x er b2 := by
  unfold doL at hR
  split at hR
  · rename_i hw
    rcases renew_cases most b o.tn o.nm o.ep o.now o.ttl with ⟨e, he, h1⟩ | ⟨x', y, hy, hn, hep, hhe, htt, hx', h1⟩
    · rw [h1] at hR
      injection hR with e1 e2
      injection e2 with e2 e3
      subst e1; subst e2; subst e3
      exact ep_same h rfl (fun y hy => ⟨y, hy, rfl⟩) (fun _ => rfl)
    · rw [h1] at hR
      injection hR with e1 e2
      injection e2 with e2 e3
      subst e1; subst e2; subst e3
      have he : x'.epoch = y.epoch := by rw [hx']
      refine ⟨fun z hz => ?_, Int.le_refl _, by show b.nx ≤ b.nx + 1; omega, fun _ _ _ => ⟨he.trans hep, ?_, rfl⟩, fun _ _ h3 => absurd hw h3, fun _ => rfl, fun h3 => absurd rfl h3⟩
      · rcases mem_ptL hz with rfl | hz
        · rw [he]; exact h y hy
        · exact h z hz
      · rw [he]; exact h y hy
  · rename_i hw
    split at hR
    · injection hR with e1 e2
      injection e2 with e2 e3
      subst e1; subst e2; subst e3
      refine ep_same h ?_ (fun y hy => ?_) (fun h1 => ?_)
      · unfold releaseL; split <;> rfl
      · unfold releaseL at hy
        split at hy
        · rename_i h0
          obtain ⟨z, h1, h2, h3, h4, h5, h6⟩ := own_cases h0
          rcases mem_ptL hy with rfl | hy
          · exact ⟨z, h1, by rw [h3]⟩
          · exact ⟨y, hy, rfl⟩
        · exact ⟨y, hy, rfl⟩
      · unfold releaseL at h1 ⊢
        split
        · rename_i h0; rw [if_pos h0] at h1; exact absurd rfl h1
        · rfl
    · split at hR
      · injection hR with e1 e2
        injection e2 with e2 e3
        subst e1; subst e2; subst e3
        refine ep_same h ?_ (fun y hy => ?_) (fun h1 => absurd rfl h1)
        · unfold evictL
          split
          · rfl
          · split <;> rfl
        · unfold evictL at hy
          split at hy
          · exact ⟨y, hy, rfl⟩
          · split at hy
            · exact ⟨y, hy, rfl⟩
            · exact ⟨y, (drL_mem.1 hy).1, rfl⟩
      · split at hR
        · injection hR with e1 e2
          injection e2 with e2 e3
          subst e1; subst e2; subst e3
          refine ep_same h ?_ (fun y hy => ?_) (fun h1 => absurd rfl h1)
          · unfold leaveL
            split <;> rfl
          · unfold leaveL at hy
            split at hy
            · exact ⟨y, hy, rfl⟩
            · obtain ⟨z, hz, rfl⟩ := List.mem_map.1 hy
              exact ⟨z, hz, by unfold lvX; split <;> rfl⟩
        · split at hR
          · injection hR with e1 e2
            injection e2 with e2 e3
            subst e1; subst e2; subst e3
            refine ep_same h ?_ (fun y hy => ?_) (fun h1 => absurd rfl h1)
            · unfold lapseL
              split <;> rfl
            · unfold lapseL at hy
              split at hy
              · exact ⟨y, hy, rfl⟩
              · obtain ⟨z, hz, rfl⟩ := List.mem_map.1 (List.mem_filter.1 hy).1
                exact ⟨z, hz, by unfold lpX; split <;> rfl⟩
          · rcases claim_cases g most b o.tn o.nm o.conn o.now o.ttl with ⟨e, he, h1⟩ | ⟨x', ⟨hx', _, _, hc, ht, _⟩, h1⟩
            · rw [h1] at hR
              injection hR with e1 e2
              injection e2 with e2 e3
              subst e1; subst e2; subst e3
              exact ep_same h rfl (fun y hy => ⟨y, hy, rfl⟩) (fun _ => rfl)
            · rw [h1] at hR
              injection hR with e1 e2
              injection e2 with e2 e3
              subst e1; subst e2; subst e3
              have he : x'.epoch = b.nx := by rw [hx']
              have hh : x'.held = true := by rw [hx']
              refine ⟨fun z hz => ?_, by show b.nx ≤ b.nx + 1; omega, Int.le_refl _, fun _ _ h3 => absurd h3 hw, fun _ _ _ => ⟨he, rfl, hh, ?_⟩, fun h3 => ?_, fun h3 => absurd rfl h3⟩
              · show z.epoch < b.nx + 1
                rcases mem_ptL hz with rfl | hz
                · omega
                · have := h z hz; omega
              · rw [hx']
                show o.now < o.now + min o.ttl most
                unfold timB at ht
                simp only [Bool.and_eq_true, decide_eq_true_eq] at ht
                omega
              · rcases h3 with h3 | h3
                · exact absurd rfl h3
                · exact absurd h3 (held_ne hh)
theorem nx_step {g most : Int} {b b2 : Bo} {o : Lo} {x : Ls} {er : Int} (h : Gb g most b) (hR : doL g most b o = (x, er, b2)) : b2.nx ≤ b.nx + 1 := by
  unfold doL at hR
  split at hR
  · rcases renew_cases most b o.tn o.nm o.ep o.now o.ttl with ⟨e, he, h1⟩ | ⟨x', y, _, _, _, _, _, _, h1⟩
    · rw [h1] at hR; injection hR with e1 e2; injection e2 with e2 e3; subst e3; omega
    · rw [h1] at hR; injection hR with e1 e2; injection e2 with e2 e3; subst e3; show b.nx ≤ b.nx + 1; omega
  · split at hR
    · injection hR with e1 e2; injection e2 with e2 e3; subst e3
      unfold releaseL
      split
      · show b.nx ≤ b.nx + 1; omega
      · show b.nx ≤ b.nx + 1; omega
    · split at hR
      · injection hR with e1 e2; injection e2 with e2 e3; subst e3
        unfold evictL
        split
        · show b.nx ≤ b.nx + 1; omega
        · split
          · show b.nx ≤ b.nx + 1; omega
          · show b.nx ≤ b.nx + 1; omega
      · split at hR
        · injection hR with e1 e2; injection e2 with e2 e3; subst e3
          unfold leaveL
          split
          · show b.nx ≤ b.nx + 1; omega
          · show b.nx ≤ b.nx + 1; omega
        · split at hR
          · injection hR with e1 e2; injection e2 with e2 e3; subst e3
            unfold lapseL
            split
            · show b.nx ≤ b.nx + 1; omega
            · show b.nx ≤ b.nx + 1; omega
          · rcases claim_cases g most b o.tn o.nm o.conn o.now o.ttl with ⟨e, he, h1⟩ | ⟨x', _, h1⟩
            · rw [h1] at hR; injection hR with e1 e2; injection e2 with e2 e3; subst e3; omega
            · rw [h1] at hR; injection hR with e1 e2; injection e2 with e2 e3; subst e3; exact Int.le_refl _
theorem hold_some {b : Bo} {s : ByteArray} {now : Int} {x : Ls} (h : holdL b s now = some x) : fnL s b.l = some x ∧ heL x now = true := by
  unfold holdL at h
  cases hq : fnL s b.l with
  | none => rw [hq] at h; cases h
  | some y =>
    rw [hq] at h
    have : (if heL y now = true then some y else none) = some x := h
    split at this
    · rename_i h1
      injection this with this
      subst this
      exact ⟨rfl, h1⟩
    · cases this
theorem hold_of {b : Bo} {s : ByteArray} {now : Int} {x : Ls} (h : fnL s b.l = some x) : holdL b s now = if heL x now = true then some x else none := by
  unfold holdL
  rw [h]
  rfl
theorem grant_hold {g most : Int} {b : Bo} {ten s : ByteArray} {conn now ttl : Int} {x : Ls} (hup : UpL b.l) (h : GrantL g most b ten s conn now ttl x) (at_ : Int) : holdL ⟨ptL x b.l, b.nx + 1⟩ s at_ = if at_ < now + min ttl most then some x else none := by
  have hx := h.1
  have hn : nmE x.name s = true := (nmE_iff _ _).2 (by rw [hx])
  have hf : fnL s (ptL x b.l) = some x := by rw [fn_ptL hup, hn]; rfl
  rw [hold_of (b := ⟨ptL x b.l, b.nx + 1⟩) hf]
  have hh : heL x at_ = decide (at_ < now + min ttl most) := by rw [hx]; rfl
  rw [hh]
  by_cases hq : at_ < now + min ttl most
  · rw [decide_eq_true hq, if_pos rfl, if_pos hq]
  · rw [decide_eq_false hq, if_neg (by simp), if_neg hq]
theorem grant_time {g most : Int} {b : Bo} {ten s : ByteArray} {conn now ttl : Int} {x : Ls} (hm : 1 ≤ most) (h : GrantL g most b ten s conn now ttl x) : 0 ≤ now ∧ now ≤ 1099511627776 ∧ 1 ≤ ttl ∧ ttl ≤ 1073741824 ∧ 1 ≤ min ttl most := by
  obtain ⟨_, _, _, hc, ht, _⟩ := h
  unfold clkB at hc
  unfold timB at ht
  simp only [Bool.and_eq_true, decide_eq_true_eq] at hc ht
  omega
/-- Who claims a name: it is held, and nothing turns; or it is granted; or refused. -/
theorem one_cases {g most : Int} {b : Bo} (hm : 1 ≤ most) (hup : UpL b.l) (ten s : ByteArray) (conn now ttl : Int) :
    (∃ x e, holdL b s now = some x ∧ e ≠ 0 ∧ claimL g most b ten s conn now ttl = (zeroLs, e, b)) ∨
    (∃ x, holdL b s now = none ∧ claimL g most b ten s conn now ttl = (x, 0, ⟨ptL x b.l, b.nx + 1⟩) ∧ holdL ⟨ptL x b.l, b.nx + 1⟩ s now = some x ∧ x.ten = ten ∧ x.conn = conn) ∨
    (∃ e, holdL b s now = none ∧ e ≠ 0 ∧ claimL g most b ten s conn now ttl = (zeroLs, e, b)) := by
  rcases claim_cases g most b ten s conn now ttl with ⟨e, he, h1⟩ | ⟨x, hg, h1⟩
  · cases hh : holdL b s now with
    | some x => exact .inl ⟨x, e, rfl, he, h1⟩
    | none => exact .inr (.inr ⟨e, rfl, he, h1⟩)
  · refine .inr (.inl ⟨x, ?_, h1, ?_, by rw [hg.1], by rw [hg.1]⟩)
    · cases hh : holdL b s now with
      | none => rfl
      | some y =>
        obtain ⟨h2, h3⟩ := hold_some hh
        have := (hg.2.2.2.2.2.1 y h2).1
        rw [h3] at this
        cases this
    · rw [grant_hold hup hg, if_pos (by have := grant_time hm hg; omega)]
theorem leave_parts {g : Int} {b : Bo} {conn now : Int} (hc : clkB now = true) : leaveL g b conn now = (b.l.filter (fun x => decide (x.conn = conn) && heL x now), ⟨b.l.map (lvX g conn now), b.nx⟩) := by
  unfold leaveL
  rw [if_neg (by rw [hc]; simp)]
theorem lvX_no {g conn now : Int} {x : Ls} (h : (decide (x.conn = conn) && heL x now) = false) : lvX g conn now x = x := by unfold lvX; rw [if_neg (by rw [h]; simp)]
theorem lvX_off (g conn now : Int) (x : Ls) : (decide ((lvX g conn now x).conn = conn) && heL (lvX g conn now x) now) = false := by
  cases h : (decide (x.conn = conn) && heL x now) with
  | false => rw [lvX_no h, h]
  | true =>
    unfold lvX
    rw [if_pos h]
    simp [heL]
theorem leave_again {g : Int} {b : Bo} {conn now : Int} (hc : clkB now = true) : leaveL g ⟨b.l.map (lvX g conn now), b.nx⟩ conn now = ([], ⟨b.l.map (lvX g conn now), b.nx⟩) := by
  rw [leave_parts hc]
  have e1 : (b.l.map (lvX g conn now)).filter (fun x => decide (x.conn = conn) && heL x now) = [] := by
    rw [List.filter_eq_nil_iff]
    intro y hy
    obtain ⟨x, _, rfl⟩ := List.mem_map.1 hy
    rw [lvX_off]; simp
  have e2 : (b.l.map (lvX g conn now)).map (lvX g conn now) = b.l.map (lvX g conn now) := by
    refine (List.map_congr_left fun y hy => ?_).trans (List.map_id _)
    obtain ⟨x, _, rfl⟩ := List.mem_map.1 hy
    exact lvX_no (lvX_off g conn now x)
  rw [e1, e2]
theorem hold_mem {b : Bo} (h : UpL b.l) {x : Ls} (hx : x ∈ b.l) (now : Int) : holdL b x.name now = if heL x now = true then some x else none := hold_of (fn_of_mem h hx)
theorem rsame_yes (A A' : Option Addr) (cp cp' : Nat) (L : List Ls) (u : World) (n : Nat) (hn : L.length = n) (hR : Rw 6 lsc u A L) (hR' : Rw 6 lsc u A' L) (hc : n ≤ 9223372036854775807) :
    Calls Try.prog 20 #[.slice A n cp, .slice A' n cp'] u fun e u' => e = .returned (.bool true) ∧ Below u.heap.size u u' :=
  (rsame_ok A A' cp cp' L L u n n hn hn hR hR' hc hc).mono fun e u' ⟨h1, h2⟩ => ⟨by rw [h1, decide_eq_true rfl], h2⟩
end Go.Proofs.Ytpbobmiajjgekaa
