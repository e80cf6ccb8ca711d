/- Alarms in a heap: what swapping, going up and going down leave. Plain: nothing of memory, nothing of the program is named here. -/
import Derived.Test.YtdfllobdefodfaaBase
namespace Go.Proofs.Ytdfllobdefodfaa
set_option linter.unusedVariables false
set_option linter.unusedSimpArgs false

/-- An alarm: its block, its number, its time. -/
structure Al where
  b : Nat
  id : Int
  t : Int

instance : Inhabited Al := ⟨⟨0, 0, 0⟩⟩

/-- The one goes ahead of the other. -/
def Al.lt (x y : Al) : Prop := x.t < y.t ∨ (x.t = y.t ∧ x.id < y.id)
instance (x y : Al) : Decidable (x.lt y) := inferInstanceAs (Decidable (_ ∨ _))

def nth (l : List Al) (i : Nat) : Al := l.getD i ⟨0, 0, 0⟩
theorem nth_get {l : List Al} {i : Nat} (h : i < l.length) : l[i]? = some (nth l i) := by simp [nth, List.getD, h]
theorem nth_getElem {l : List Al} {i : Nat} (h : i < l.length) : l[i] = nth l i := by simp [nth, List.getD, h]
theorem nth_mem {l : List Al} {i : Nat} (h : i < l.length) : nth l i ∈ l := by rw [← nth_getElem h]; exact List.getElem_mem h
theorem nth_set {l : List Al} {i k : Nat} (x : Al) (h : i < l.length) : nth (l.set i x) k = if k = i then x else nth l k := by
  unfold nth
  simp only [List.getD, List.getElem?_set]
  by_cases hk : k = i
  · subst hk; simp [h]
  · rw [if_neg (fun e => hk e.symm), if_neg hk]
theorem nth_append_left {l m : List Al} {i : Nat} (h : i < l.length) : nth (l ++ m) i = nth l i := by unfold nth; simp only [List.getD]; rw [List.getElem?_append_left h]
theorem nth_append_at (l : List Al) (x : Al) : nth (l ++ [x]) l.length = x := by unfold nth; simp
theorem nth_take {l : List Al} {i n : Nat} (h : i < n) : nth (l.take n) i = nth l i := by unfold nth; simp only [List.getD]; rw [List.getElem?_take_of_lt h]

/-- i and j in each other's place. -/
def swp (l : List Al) (i j : Nat) : List Al := (l.set i (nth l j)).set j (nth l i)
theorem swp_length (l : List Al) (i j : Nat) : (swp l i j).length = l.length := by simp [swp]
theorem nth_swp {l : List Al} {i j : Nat} (hi : i < l.length) (hj : j < l.length) (k : Nat) : nth (swp l i j) k = if k = j then nth l i else if k = i then nth l j else nth l k := by
  unfold swp
  rw [nth_set _ (by simpa using hj), nth_set _ hi]
theorem swp_perm {l : List Al} {i j : Nat} (hi : i < l.length) (hj : j < l.length) : (swp l i j).Perm l := by
  unfold swp
  rw [← nth_getElem hi, ← nth_getElem hj]
  exact List.set_set_perm hi hj

/-- p is not behind c. -/
def Ord (l : List Al) (p c : Nat) : Prop := ¬ (nth l c).lt (nth l p)
def HeapN (l : List Al) (n : Nat) : Prop := ∀ c, 0 < c → c < n → Ord l ((c - 1) / 2) c
def UpInv (l : List Al) (n j : Nat) : Prop :=
  (∀ c, 0 < c → c < n → c ≠ j → Ord l ((c - 1) / 2) c) ∧ (∀ c, 0 < c → c < n → (c - 1) / 2 = j → 0 < j → Ord l ((j - 1) / 2) c)
def DnInv (l : List Al) (n i i0 : Nat) : Prop :=
  (∀ c, 0 < c → c < n → (c - 1) / 2 ≠ i → (c = i0 ∧ i = i0) ∨ Ord l ((c - 1) / 2) c) ∧ (∀ c, 0 < c → c < n → (c - 1) / 2 = i → 0 < i → Ord l ((i - 1) / 2) c) ∧ i0 ≤ i

theorem Al.lt_trans {x y z : Al} (h : x.lt y) (k : y.lt z) : x.lt z := by unfold Al.lt at *; omega
theorem Al.nlt_trans {x y z : Al} (h : ¬ y.lt x) (k : ¬ z.lt y) : ¬ z.lt x := by unfold Al.lt at *; omega
theorem Al.nlt_of {x y : Al} (h : x.lt y) : ¬ y.lt x := by unfold Al.lt at *; omega
theorem Al.lt_irrefl (x : Al) : ¬ x.lt x := by unfold Al.lt; omega

theorem up_stop {l : List Al} {n j : Nat} (h : UpInv l n j) (hs : j = 0 ∨ ¬ (nth l j).lt (nth l ((j - 1) / 2))) : HeapN l n := by
  intro c h0 hc
  by_cases hj : c = j
  · subst hj
    rcases hs with hs | hs
    · omega
    · exact hs
  · exact h.1 c h0 hc hj

theorem up_step {l : List Al} {n j : Nat} (hn : n ≤ l.length) (h : UpInv l n j) (hj : j < n) (h0 : 0 < j) (hlt : (nth l j).lt (nth l ((j - 1) / 2))) : UpInv (swp l ((j - 1) / 2) j) n ((j - 1) / 2) := by
  have hi : (j - 1) / 2 < l.length := by omega
  have hjl : j < l.length := by omega
  obtain ⟨i, hie⟩ : ∃ i, i = (j - 1) / 2 := ⟨_, rfl⟩
  rw [← hie] at hlt hi ⊢
  have hij : i < j := by omega
  constructor
  · intro c c0 cn hci
    unfold Ord
    rw [nth_swp hi hjl, nth_swp hi hjl]
    by_cases hcj : c = j
    · subst hcj
      rw [← hie, if_pos rfl, if_neg (by omega), if_pos rfl]
      exact Al.nlt_of hlt
    · rw [if_neg hcj, if_neg hci]
      by_cases hp : (c - 1) / 2 = j
      · rw [if_pos hp]
        have := h.2 c c0 cn hp h0
        rw [← hie] at this
        exact this
      · rw [if_neg hp]
        by_cases hp2 : (c - 1) / 2 = i
        · rw [if_pos hp2]
          have := h.1 c c0 cn hcj
          rw [hp2] at this
          exact Al.nlt_trans (Al.nlt_of hlt) this
        · rw [if_neg hp2]
          exact h.1 c c0 cn hcj
  · intro c c0 cn hci i0
    have hpi : (i - 1) / 2 < i := by omega
    have hii := h.1 i i0 (by omega) (by omega)
    unfold Ord at hii ⊢
    rw [nth_swp hi hjl, nth_swp hi hjl, if_neg (c := (i - 1) / 2 = j) (by omega), if_neg (c := (i - 1) / 2 = i) (by omega)]
    by_cases hcj : c = j
    · rw [if_pos hcj]; exact hii
    · rw [if_neg hcj, if_neg (c := c = i) (by omega)]
      have := h.1 c c0 cn hcj
      rw [hci] at this
      exact Al.nlt_trans hii this

theorem dn_step {l : List Al} {n i j i0 : Nat} (hn : n ≤ l.length) (h : DnInv l n i i0) (hj : j < n) (hji : 0 < j ∧ (j - 1) / 2 = i) (hk : ∀ k, 0 < k → k < n → (k - 1) / 2 = i → Ord l j k) (hlt : (nth l j).lt (nth l i)) : DnInv (swp l i j) n j i0 := by
  obtain ⟨j0, hji⟩ := hji
  have hij : i < j := by omega
  have hi : i < l.length := by omega
  have hjl : j < l.length := by omega
  obtain ⟨h1, h2, h3⟩ := h
  refine ⟨?_, ?_, by omega⟩
  · intro c c0 cn hcj
    right
    unfold Ord
    rw [nth_swp hi hjl, nth_swp hi hjl, if_neg hcj]
    by_cases hpi : (c - 1) / 2 = i
    · rw [if_pos hpi]
      by_cases hcj2 : c = j
      · rw [if_pos hcj2]; exact Al.nlt_of hlt
      · rw [if_neg hcj2, if_neg (by omega)]
        exact hk c c0 cn hpi
    · rw [if_neg hpi]
      have hcj2 : c ≠ j := by rintro rfl; exact hpi hji
      rw [if_neg hcj2]
      by_cases hci : c = i
      · rw [if_pos hci]
        subst hci
        exact h2 j j0 hj hji (by omega)
      · rw [if_neg hci]
        rcases h1 c c0 cn hpi with h4 | h4
        · omega
        · exact h4
  · intro c c0 cn hcj _
    unfold Ord
    rw [nth_swp hi hjl, nth_swp hi hjl, hji, if_neg (c := i = j) (by omega), if_pos rfl, if_neg (c := c = j) (by omega), if_neg (c := c = i) (by omega)]
    rcases h1 c c0 cn (by omega) with h4 | h4
    · omega
    · rw [hcj] at h4; exact h4

theorem dn_stop {l : List Al} {n i i0 : Nat} (h : DnInv l n i i0) (hs : ∀ c, 0 < c → c < n → (c - 1) / 2 = i → Ord l i c) : (i0 < i → HeapN l n) ∧ (i = i0 → UpInv l n i0) := by
  obtain ⟨h1, h2, h3⟩ := h
  refine ⟨fun hlt c c0 cn => ?_, fun he => ⟨fun c c0 cn hc => ?_, fun c c0 cn hc i0' => ?_⟩⟩
  · by_cases hp : (c - 1) / 2 = i
    · have := hs c c0 cn hp; rw [← hp] at this; exact this
    · rcases h1 c c0 cn hp with h4 | h4
      · omega
      · exact h4
  · by_cases hp : (c - 1) / 2 = i
    · have := hs c c0 cn hp; rw [← hp] at this; exact this
    · rcases h1 c c0 cn hp with h4 | h4
      · omega
      · exact h4
  · subst he; exact h2 c c0 cn hc i0'

/-- A heap of which one alarm has turned. -/
theorem HeapN.dn {l : List Al} {n i : Nat} (hn : n ≤ l.length) (h : HeapN l n) (hi : i < l.length) (x : Al) : DnInv (l.set i x) n i i := by
  refine ⟨fun c c0 cn hp => ?_, fun c c0 cn hp i0 => ?_, Nat.le_refl _⟩
  · by_cases hc : c = i
    · exact .inl ⟨hc, rfl⟩
    · right
      unfold Ord
      rw [nth_set _ hi, nth_set _ hi, if_neg hp, if_neg hc]
      exact h c c0 cn
  · unfold Ord
    rw [nth_set _ hi, nth_set _ hi, if_neg (c := (i - 1) / 2 = i) (by omega), if_neg (c := c = i) (by omega)]
    have h1 := h c c0 cn
    have h2 := h i i0 (by omega)
    rw [hp] at h1
    exact Al.nlt_trans h2 h1
theorem DnInv.congr {l m : List Al} {n i : Nat} (h : DnInv l n i i) (hi : i < n) (he : ∀ k, k < n → nth m k = nth l k) : DnInv m n i i := by
  obtain ⟨h1, h2, h3⟩ := h
  refine ⟨fun c c0 cn hp => ?_, fun c c0 cn hp i0 => ?_, h3⟩
  · rcases h1 c c0 cn hp with h4 | h4
    · exact .inl h4
    · right
      unfold Ord
      rw [he c cn, he _ (by omega)]
      exact h4
  · have := h2 c c0 cn hp i0
    unfold Ord
    rw [he c cn, he _ (by omega)]
    exact this
theorem HeapN.less {l : List Al} {n m : Nat} (h : HeapN l n) (hm : m ≤ n) : HeapN l m := fun c c0 cm => h c c0 (Nat.lt_of_lt_of_le cm hm)
theorem HeapN.congr {l m : List Al} {n : Nat} (h : HeapN l n) (he : ∀ k, k < n → nth m k = nth l k) : HeapN m n := fun c c0 cn => by
  unfold Ord
  rw [he c cn, he _ (by omega)]
  exact h c c0 cn
/-- One more behind. -/
theorem HeapN.up {l : List Al} (h : HeapN l l.length) (x : Al) : UpInv (l ++ [x]) (l.length + 1) l.length := by
  refine ⟨fun c c0 cn hc => ?_, fun c c0 cn hp => by omega⟩
  unfold Ord
  rw [nth_append_left (by omega), nth_append_left (by omega)]
  exact h c c0 (by omega)
/-- The first one goes first. -/
theorem HeapN.top {l : List Al} {n : Nat} (h : HeapN l n) : ∀ c, c < n → ¬ (nth l c).lt (nth l 0) := by
  intro c
  induction c using Nat.strongRecOn with
  | ind c ih =>
    intro hc
    by_cases h0 : c = 0
    · subst h0; exact Al.lt_irrefl _
    · exact Al.nlt_trans (ih ((c - 1) / 2) (by omega) (by omega)) (h c (by omega) hc)

/-- Number and time. -/
abbrev Ky := Int × Int
def Al.ky (x : Al) : Ky := (x.id, x.t)
def ks (l : List Al) : List Ky := l.map Al.ky
/-- The one goes ahead of the other. -/
def Kl (x y : Ky) : Prop := x.2 < y.2 ∨ (x.2 = y.2 ∧ x.1 < y.1)
instance (x y : Ky) : Decidable (Kl x y) := inferInstanceAs (Decidable (_ ∨ _))
theorem Kl.trans {x y z : Ky} (h : Kl x y) (k : Kl y z) : Kl x z := by unfold Kl at *; omega
/-- Alarms in order, of each number one. -/
structure Srt (S : List Ky) : Prop where
  ord : S.Pairwise Kl
  ids : S.Pairwise (fun x y => x.1 ≠ y.1)
theorem Srt.nil : Srt [] := ⟨.nil, .nil⟩

def insM (x : Ky) : List Ky → List Ky
  | [] => [x]
  | y :: r => if Kl x y then x :: y :: r else y :: insM x r
theorem insM_perm (x : Ky) : ∀ S, (insM x S).Perm (x :: S)
  | [] => .refl _
  | y :: r => by
    unfold insM
    split
    · exact .refl _
    · exact (List.Perm.cons y (insM_perm x r)).trans (.swap x y r)
theorem insM_mem {x z : Ky} {S : List Ky} : z ∈ insM x S ↔ z = x ∨ z ∈ S := by rw [(insM_perm x S).mem_iff, List.mem_cons]
theorem insM_ord {x : Ky} : ∀ {S : List Ky}, S.Pairwise Kl → (∀ y ∈ S, y.1 ≠ x.1) → (insM x S).Pairwise Kl
  | [], _, _ => by simp [insM]
  | y :: r, h, hn => by
    obtain ⟨h1, h2⟩ := List.pairwise_cons.1 h
    unfold insM
    split
    · rename_i hk
      refine List.pairwise_cons.2 ⟨fun z hz => ?_, h⟩
      rcases List.mem_cons.1 hz with rfl | hz
      · exact hk
      · exact hk.trans (h1 z hz)
    · rename_i hk
      refine List.pairwise_cons.2 ⟨fun z hz => ?_, insM_ord h2 (fun z hz => hn z (List.mem_cons_of_mem _ hz))⟩
      rcases insM_mem.1 hz with rfl | hz
      · have := hn y (List.mem_cons_self ..)
        unfold Kl at *; omega
      · exact h1 z hz
/-- All but one. -/
def outM (id : Int) (S : List Ky) : List Ky := S.filter (fun x => x.1 != id)
theorem outM_mem {id : Int} {S : List Ky} {x : Ky} : x ∈ outM id S ↔ x ∈ S ∧ x.1 ≠ id := by simp [outM]
theorem Srt.out {S : List Ky} (h : Srt S) (id : Int) : Srt (outM id S) := ⟨h.ord.filter _, h.ids.filter _⟩
def setM (id t : Int) (S : List Ky) : List Ky := insM (id, t) (outM id S)
theorem ids_perm {S T : List Ky} (h : S.Perm T) (k : S.Pairwise (fun x y => x.1 ≠ y.1)) : T.Pairwise (fun x y => x.1 ≠ y.1) := (h.pairwise_iff (fun {a b} (e : a.1 ≠ b.1) => e.symm)).1 k
theorem Srt.set {S : List Ky} (h : Srt S) (id t : Int) : Srt (setM id t S) :=
  ⟨insM_ord (h.out id).ord (fun y hy => (outM_mem.1 hy).2), ids_perm (insM_perm _ _).symm (List.pairwise_cons.2 ⟨fun y hy => (outM_mem.1 hy).2.symm, (h.out id).ids⟩)⟩
theorem out_of_perm {A B : List Ky} {x : Ky} (h : A.Perm (x :: B)) (hn : A.Pairwise (fun x y => x.1 ≠ y.1)) : B.Perm (outM x.1 A) := by
  have h1 : (outM x.1 A).Perm (outM x.1 (x :: B)) := h.filter _
  have h2 := List.pairwise_cons.1 (ids_perm h hn)
  have h3 : outM x.1 (x :: B) = B := by
    unfold outM
    rw [List.filter_cons_of_neg (by simp), List.filter_eq_self.2 (fun y hy => by have := h2.1 y hy; simp; exact fun e => this e.symm)]
  rw [h3] at h1
  exact h1.symm
theorem out_none {id : Int} {S : List Ky} (h : ∀ x ∈ S, x.1 ≠ id) : outM id S = S := List.filter_eq_self.2 (fun y hy => by simp [h y hy])

/-- The first of a heap is the first of those in order. -/
theorem top_is {l : List Al} {y : Ky} {S : List Ky} (hh : HeapN l l.length) (hp : (ks l).Perm (y :: S)) (hs : Srt (y :: S)) (h0 : 0 < l.length) : (nth l 0).ky = y := by
  have hm : (nth l 0).ky ∈ y :: S := hp.mem_iff.1 (List.mem_map_of_mem (nth_mem h0))
  rcases List.mem_cons.1 hm with h | h
  · exact h
  · exfalso
    have h1 := (List.pairwise_cons.1 hs.ord).1 _ h
    have h2 : y ∈ ks l := hp.mem_iff.2 (List.mem_cons_self ..)
    obtain ⟨z, hz, rfl⟩ := List.mem_map.1 h2
    obtain ⟨i, hi, rfl⟩ := List.mem_iff_getElem.1 hz
    have h3 := hh.top i hi
    rw [nth_getElem hi] at h1
    unfold Kl at h1
    unfold Al.lt at h3
    simp only [Al.ky] at h1
    omega
/-- Those whose time is up to n, and the others. -/
def goM (n : Int) (S : List Ky) : List Int := (S.filter (fun x => decide (x.2 ≤ n))).map (·.1)
def stayM (n : Int) (S : List Ky) : List Ky := S.filter (fun x => !decide (x.2 ≤ n))
theorem Srt.stay {S : List Ky} (h : Srt S) (n : Int) : Srt (stayM n S) := ⟨h.ord.filter _, h.ids.filter _⟩
theorem Srt.tail {S : List Ky} {y : Ky} (h : Srt (y :: S)) : Srt S := ⟨(List.pairwise_cons.1 h.ord).2, (List.pairwise_cons.1 h.ids).2⟩
theorem out_head {S : List Ky} {y : Ky} (h : Srt (y :: S)) : outM y.1 (y :: S) = S := by
  unfold outM
  rw [List.filter_cons_of_neg (by simp)]
  exact List.filter_eq_self.2 (fun z hz => by have := (List.pairwise_cons.1 h.ids).1 z hz; simp; exact fun e => this e.symm)
/-- Where the first stays all stay. -/
theorem stay_all {S : List Ky} {y : Ky} {n : Int} (h : Srt (y :: S)) (hy : ¬ y.2 ≤ n) : stayM n (y :: S) = y :: S ∧ goM n (y :: S) = [] := by
  have hall : ∀ z ∈ y :: S, ¬ z.2 ≤ n := by
    intro z hz
    rcases List.mem_cons.1 hz with rfl | hz
    · exact hy
    · have := (List.pairwise_cons.1 h.ord).1 z hz
      unfold Kl at this; omega
  constructor
  · exact List.filter_eq_self.2 (fun z hz => by simp [hall z hz])
  · unfold goM
    rw [List.filter_eq_nil_iff.2 (fun z hz => by simp [hall z hz])]
    rfl
theorem go_cons {S : List Ky} {y : Ky} {n : Int} (hy : y.2 ≤ n) : goM n (y :: S) = y.1 :: goM n S ∧ stayM n (y :: S) = stayM n S := by
  constructor
  · simp [goM, hy]
  · simp [stayM, hy]
/-- When a number goes. -/
def atM (id : Int) (S : List Ky) : Option Int := (S.find? (fun x => x.1 == id)).map (·.2)
end Go.Proofs.Ytdfllobdefodfaa
