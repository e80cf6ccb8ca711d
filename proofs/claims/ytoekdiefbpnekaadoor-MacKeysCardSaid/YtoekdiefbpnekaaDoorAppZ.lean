/- append(s, make([]byte, m)...): so many bytes 0 put behind. Nothing of the program is named here. -/
import Derived.Test.YtoekdiefbpnekaaDoorAppOp
import Derived.Test.YtoekdiefbpnekaaDoorArr
import Derived.Laws.OwnMore
import Derived.Laws.MakeOwn
namespace Go.Proofs.YtoekdiefbpnekaaDoor
set_option linter.unusedVariables false
set_option linter.unusedSimpArgs false
open Go.RowKit

def zs (m : Nat) : List Value := List.replicate m (.int .u8 0)
theorem zs_len (m : Nat) : (zs m).length = m := by simp [zs]
theorem zs_one (m : Nat) : ∀ v ∈ zs m, v.oneCell' = true := by
  intro v hv
  rw [List.eq_of_mem_replicate hv]; rfl
theorem zero_cells (m : Nat) : Builtin.zeroCells (Value.int .u8 0).cells m = (zs m).toArray := by
  have hc : (Value.int IntKind.u8 0).cells = #[.int .u8 0] := rfl
  apply Array.ext'
  rw [hc]
  unfold Builtin.zeroCells zs
  apply List.ext_getElem?
  intro j
  by_cases hj : j < m
  · simp [hj, Nat.mod_one]
  · simp [hj]
section
variable {P : Program} (w : World)
theorem room (t u ty e : TypeId) (i : TypeInfo) (ht : P.underlying t = some (.slice e)) (hu : P.underlying u = some (.int .i64)) (hi : P.info? e = some i) (hz : i.zero = some (.int .u8 0)) (hs1 : i.size = 1) (hby : i.bytes = 1)
    (g sLen sCap : Nat) (cur : Array Value) (hg : w.heap[g]? = some (.cells cur e (0, 0))) (m : Nat) (hm : m ≤ 140737488355328)
    (hroom : sLen + m ≤ sCap) (hfit : sLen + m ≤ cur.size) :
    (Builtin.append_ #[t, u] ty #[.slice (some ⟨g, 0, none⟩) sLen sCap, .int .i64 (m : Int)]).run P w =
      .ok (.slice (some ⟨g, 0, none⟩) (sLen + m) sCap) (w.setRow g (cur.toList.take sLen ++ zs m ++ cur.toList.drop (sLen + m)).toArray) := by
  have hst := run_storeCells_at P g sLen e (zs m) 0 cur w hg (by simpa [zs_len] using hfit) (zs_one m)
  simp only [Nat.add_zero, zs_len] at hst
  have hw : IntKind.i64.wrap (m : Int) = (m : Int) := by rw [IntKind.wrap_i64]; omega
  have h1 : ¬ ((m : Int) < 0) := by omega
  have h2 : ¬ (281474976710656 < (m : Int)) := by omega
  have hzc := zero_cells m
  by_cases h0 : m = 0
  · subst h0
    have hw0 : IntKind.i64.wrap 0 = 0 := by decide
    have hroom0 : sLen ≤ sCap := by omega
    simp [Builtin.append_, run_underlying ht, run_underlying hu, sizeOf, typeInfo, zeroValue, hi, hz, hs1, hby, Builtin.lenOf, asInt, asIntOf, hw, hw0, hroom0, Addr.add_lit]
    have hst' : (storeCells ⟨g, sLen, none⟩ []).run P w = .ok () (w.setRow g cur) := by simpa [zs] using hst
    simp [hst', zs]
  · simp [Builtin.append_, run_underlying ht, run_underlying hu, sizeOf, typeInfo, zeroValue, hi, hz, hs1, hby, Builtin.lenOf, asInt, asIntOf, hw, h1, h2, h0, hroom, Addr.add_lit, hzc, hst]
theorem grow (t u ty e : TypeId) (i : TypeInfo) (ht : P.underlying t = some (.slice e)) (hu : P.underlying u = some (.int .i64)) (hi : P.info? e = some i) (hz : i.zero = some (.int .u8 0)) (hs1 : i.size = 1) (hby : i.bytes = 1)
    (b : Addr) (sLen sCap : Nat) (olds : List Value) (hlo : olds.length = sLen * i.size) (holds : ∀ j v, olds[j]? = some v → w.cell? (b.add j) = some v) (m : Nat) (hm : m ≤ 140737488355328)
    (hg : sCap < sLen + m) (hc : sLen ≤ sCap) (h63 : ((sLen + m : Nat) : Int) ≤ 9223372036854775807) (hfit : Builtin.nextslicecap (sLen + m) sCap * i.bytes ≤ 281474976710656) :
    (Builtin.append_ #[t, u] ty #[.slice (some b) sLen sCap, .int .i64 (m : Int)]).run P w =
      .ok (.slice (some ⟨w.heap.size, 0, none⟩) (sLen + m) (grownCap w (sLen + m) sCap e))
        (w.drew.alloc (.cells (olds.toArray ++ (zs m).toArray ++ Builtin.zeroCells (Value.int .u8 0).cells (grownCap w (sLen + m) sCap e - (sLen + m))) e)) := by
  have hn : ¬ (sLen + m ≤ sCap) := by omega
  have h63' : ¬ (9223372036854775807 < ((sLen : Int) + (m : Int))) := by omega
  rw [hby, Nat.mul_one] at hfit
  have h48' : ¬ (281474976710656 < Builtin.nextslicecap (sLen + m) sCap) := by omega
  have hw : IntKind.i64.wrap (m : Int) = (m : Int) := by rw [IntKind.wrap_i64]; omega
  have h1 : ¬ ((m : Int) < 0) := by omega
  have h2 : ¬ (281474976710656 < (m : Int)) := by omega
  have h0 : m ≠ 0 := by omega
  have hzc := zero_cells m
  have hfo := run_firstCells_some (P := P) w.drew i.size sLen b sLen sCap olds hlo (by simpa using holds)
  rw [hs1] at hfo
  simp [Builtin.append_, run_underlying ht, run_underlying hu, sizeOf, typeInfo, zeroValue, hi, hz, hs1, hby, Builtin.lenOf, asInt, asIntOf, hw, h1, h2, h0, hn, h63', h48', Question.forced, hfo, hzc, newRow, grownCap]
  try (congr 2; apply Array.ext'; simp [List.append_assoc])
theorem nil_ (t u ty e : TypeId) (i : TypeInfo) (ht : P.underlying t = some (.slice e)) (hu : P.underlying u = some (.int .i64)) (hi : P.info? e = some i) (hz : i.zero = some (.int .u8 0)) (hs1 : i.size = 1) (hby : i.bytes = 1)
    (m : Nat) (hm : m ≤ 140737488355328) (h0 : 0 < m) (hfit : Builtin.nextslicecap m 0 ≤ 281474976710656) :
    (Builtin.append_ #[t, u] ty #[.slice none 0 0, .int .i64 (m : Int)]).run P w =
      .ok (.slice (some ⟨w.heap.size, 0, none⟩) m (grownCap w m 0 e))
        (w.drew.alloc (.cells ((zs m).toArray ++ Builtin.zeroCells (Value.int .u8 0).cells (grownCap w m 0 e - m)) e)) := by
  have hn : ¬ (m ≤ 0) := by omega
  have h63' : ¬ (9223372036854775807 < (m : Int)) := by omega
  have h48' : ¬ (281474976710656 < Builtin.nextslicecap m 0) := by omega
  have hw : IntKind.i64.wrap (m : Int) = (m : Int) := by rw [IntKind.wrap_i64]; omega
  have h1 : ¬ ((m : Int) < 0) := by omega
  have h2 : ¬ (281474976710656 < (m : Int)) := by omega
  have h3 : m ≠ 0 := by omega
  have hzc := zero_cells m
  simp [Builtin.append_, run_underlying ht, run_underlying hu, sizeOf, typeInfo, zeroValue, hi, hz, hs1, hby, Builtin.lenOf, Builtin.firstCells, asInt, asIntOf, hw, h1, h2, h3, hn, h63', h48', Question.forced, hzc, newRow, grownCap]
theorem nil0 (t u ty e : TypeId) (i : TypeInfo) (ht : P.underlying t = some (.slice e)) (hu : P.underlying u = some (.int .i64)) (hi : P.info? e = some i) (hz : i.zero = some (.int .u8 0)) (hs1 : i.size = 1) (hby : i.bytes = 1) :
    (Builtin.append_ #[t, u] ty #[.slice none 0 0, .int .i64 0]).run P w = .ok (.slice none 0 0) w := by
  have hw0 : IntKind.i64.wrap 0 = 0 := by decide
  simp [Builtin.append_, run_underlying ht, run_underlying hu, sizeOf, typeInfo, zeroValue, hi, hz, hs1, hby, Builtin.lenOf, asInt, asIntOf, hw0]
end

theorem op_app_zeros {P : Program} {o : Oper} {a : Act} {K : Act → World → Prop} {Q : Exit → Act → World → Prop} {w : World} (s x : Operand) (t u e : TypeId)
    (ho : o.op = .call { callee := .builtin .append, args := #[s, x], argTypes := #[t, u] }) (ht : P.underlying t = some (.slice e)) (hu : P.underlying u = some (.int .i64))
    (hi : (P.info? e).map (fun i => (i.zero, i.size, i.bytes)) = some (some (.int .u8 0), 1, 1)) (B : Nat) (l : List UInt8) (A : Option Addr) (n c : Nat) (hs : a.eval s = .slice A n c) (hn : l.length = n) (hown : OB w B e A c l)
    (m : Nat) (hx : a.eval x = .int .i64 (m : Int)) (hlen : l.length + m ≤ 140737488355328) (hbase : B ≤ w.heap.size)
    (h : ∀ A2 c2 w', OB w' B e A2 c2 (l ++ List.replicate m 0) → Below B w w' → K (a.put o.dst (.slice A2 (n + m) c2)) w') : o.wp P a w K Q := by
  subst hn
  obtain ⟨i, hi1, hz, hsz, hby⟩ := info_parts hi
  have hzl : zs m = (List.replicate m (0 : UInt8)).map u8 := by unfold zs; rw [List.map_replicate]; rfl
  have hL : (l ++ List.replicate m (0 : UInt8)).length = l.length + m := by simp
  have hmap : (l ++ List.replicate m (0 : UInt8)).map u8 = l.map u8 ++ zs m := by rw [List.map_append, hzl]
  have key : ∃ A2 c2 w', (Builtin.append_ #[t, u] o.type #[.slice A l.length c, .int .i64 (m : Int)]).run P w = .ok (.slice A2 (l.length + m) c2) w' ∧ OB w' B e A2 c2 (l ++ List.replicate m 0) ∧ Below B w w' := by
    rcases hown.2 with ⟨hv, h0⟩ | ⟨g, cap, cur, hv, hb, hh, hnc, hcm, hcs, htake⟩
    · injection hv with hv1 hv2 hv3
      subst hv1; subst hv3
      have hl : l = [] := List.eq_nil_of_length_eq_zero hv2
      subst hl
      by_cases hm0 : m = 0
      · subst hm0
        exact ⟨none, 0, w, nil0 w t u o.type e i ht hu hi1 hz hsz hby, OB.nil _ _ _, Below.refl _ _⟩
      · have hfit : Builtin.nextslicecap m 0 ≤ 281474976710656 := by rw [nextslicecap_zero (by omega)]; have := hlen; simp only [List.length_nil] at this; omega
        have hr := nil_ (P := P) w t u o.type e i ht hu hi1 hz hsz hby m (by simp only [List.length_nil] at hlen; omega) (by omega) hfit
        have hge := grownCap_ge w m 0 e
        have hle : grownCap w m 0 e ≤ maxLen := grownCap_le_maxLen w m 0 e (by unfold maxLen; simp only [List.length_nil] at hlen; omega)
        refine ⟨_, _, _, by rw [List.length_nil, Nat.zero_add]; exact hr, ?_, (Below.refl B w).drew.alloc hbase _⟩
        refine ⟨by simp, .inr ⟨w.heap.size, _, _, rfl, hbase, heap_alloc_new w.drew _, by simpa using hge, hle, ?_, ?_⟩⟩
        · simp only [Array.size_append, List.size_toArray, size_zeroCells, zs_len, show (Value.int IntKind.u8 0).cells.size = 1 from rfl]; omega
        · rw [hmap]
          simp only [Array.toList_append, List.map_nil, List.nil_append, List.length_replicate, Nat.mul_one]
          exact List.take_left' (zs_len m)
    · injection hv with hv1 hv2 hv3
      subst hv1; subst hv3
      have htk : cur.toList.take l.length = l.map u8 := by simpa using htake
      by_cases hroom : l.length + m ≤ c
      · have hr := room (P := P) w t u o.type e i ht hu hi1 hz hsz hby g l.length c cur hh m (by omega) hroom (by omega)
        refine ⟨_, _, _, hr, ?_, Below.setRow (Below.refl B w) g hb _⟩
        refine ⟨by simp, .inr ⟨g, c, _, rfl, hb, setRow_heap w g cur _ e _ hh, by rw [hL]; exact hroom, hcm, ?_, ?_⟩⟩
        · simp only [List.size_toArray, List.length_append, List.length_take, List.length_drop, Array.length_toList, zs_len]; omega
        · rw [hmap, htk, hL, Nat.mul_one]
          exact List.take_left' (by simp [zs_len])
      · have holds : ∀ j v, (l.map u8)[j]? = some v → w.cell? ((⟨g, 0, none⟩ : Addr).add j) = some v := World.ownsRow.cells hown (g := g) rfl
        have hr := grow (P := P) w t u o.type e i ht hu hi1 hz hsz hby ⟨g, 0, none⟩ l.length c (l.map u8) (by rw [hsz]; simp) holds m (by omega) (by omega) hnc (by omega) (by rw [hby]; exact growslice_fits (by omega) (by omega))
        have hge := grownCap_ge w (l.length + m) c e
        have hle : grownCap w (l.length + m) c e ≤ maxLen := grownCap_le_maxLen w (l.length + m) c e (by unfold maxLen; omega)
        refine ⟨_, _, _, hr, ?_, (Below.refl B w).drew.alloc hbase _⟩
        refine ⟨by simp, .inr ⟨w.heap.size, _, _, rfl, hbase, heap_alloc_new w.drew _, by rw [hL]; exact hge, hle, ?_, ?_⟩⟩
        · simp only [Array.size_append, List.size_toArray, size_zeroCells, zs_len, List.length_map, show (Value.int IntKind.u8 0).cells.size = 1 from rfl]; omega
        · rw [hmap]
          simp only [Array.toList_append, hL, Nat.mul_one]
          exact List.take_left' (by simp [zs_len])
  obtain ⟨A2, c2, w', hr, hO, hB⟩ := key
  have hK := h A2 c2 w' hO hB
  unfold Oper.wp execOp
  simp only [ho, resolve, invoke, builtin, Sem.run_bind, Sem.run_pure, Result.andThen_ok, List.map_toArray, List.map_cons, List.map_nil, hs, hx, hr]
  exact hK
end Go.Proofs.YtoekdiefbpnekaaDoor
