/-
  Bytes of files: leaves opened and sealed, four by four; what is laid over what; which leaves differ. Without memory. Nothing here is trusted.
-/
import Derived.Test.YtaagnojdpediladFileA
import Derived.Test.YtaagnojdpediladFSeal
import Derived.Laws.CopyOwn
set_option linter.unusedVariables false
namespace Go.Proofs.Ytaagnojdpedilad

def Bytes (l : List Int) : Prop := ∀ x ∈ l, 0 ≤ x ∧ x < 256

theorem getD_bytes {l : List Int} (hl : Bytes l) (i : Nat) : 0 ≤ l.getD i 0 ∧ l.getD i 0 < 256 := by
  by_cases h : i < l.length
  · have e : l.getD i 0 = l[i] := by simp [List.getD, h]
    rw [e]; exact hl _ (List.getElem_mem h)
  · have e : l.getD i 0 = 0 := by simp [List.getD, List.getElem?_eq_none (by omega : l.length ≤ i)]
    rw [e]; omega
theorem sub_add8 (a b : Int) (h : 0 ≤ a ∧ a < 256) : sub8 (add8 a b) b = a := by unfold sub8 add8; omega
theorem add_sub8 (a b : Int) (h : 0 ≤ a ∧ a < 256) : add8 (sub8 a b) b = a := by unfold sub8 add8; omega
theorem open_sealL (key at' : Int) (l : List Int) (hl : Bytes l) : openL key at' (sealL key at' l) = l := by
  apply list_ext_getD
  · rw [openL_length, sealL_length]
  · intro i hi
    rw [openL_length, sealL_length] at hi
    unfold openL
    rw [sealL_length, mixed_getD _ _ _ _ _ hi]
    unfold mixAt sealL
    rw [mixed_getD _ _ _ _ _ hi]
    unfold mixAt
    exact sub_add8 _ _ (getD_bytes hl i)
theorem seal_openL (key at' : Int) (l : List Int) (hl : Bytes l) : sealL key at' (openL key at' l) = l := by
  apply list_ext_getD
  · rw [sealL_length, openL_length]
  · intro i hi
    rw [sealL_length, openL_length] at hi
    unfold sealL
    rw [openL_length, mixed_getD _ _ _ _ _ hi]
    unfold mixAt openL
    rw [mixed_getD _ _ _ _ _ hi]
    unfold mixAt
    exact add_sub8 _ _ (getD_bytes hl i)
theorem sealL_bytes (key at' : Int) (l : List Int) : Bytes (sealL key at' l) := mixed_bd add8 add8_bd _ _ _
theorem openL_bytes (key at' : Int) (l : List Int) : Bytes (openL key at' l) := mixed_bd sub8 sub8_bd _ _ _

/-- the place at which the leaf at place i is sealed -/
def sealPlace (i : Nat) : Int := (i : Int)
theorem sealPlace_key {key : Int} (hk : 0 ≤ key ∧ key ≤ 1000) {i : Nat} (hi : i < 64) : keyB key (sealPlace i) = true := decide_eq_true (by unfold sealPlace; omega)
/-- a leaf, opened -/
def plain (key : Int) (i : Nat) (l : List Int) : List Int := if l = [] then [0, 0, 0, 0] else openL key (sealPlace i) l
/-- the leaf of four bytes -/
def leafFor (key : Int) (i : Nat) (p : List Int) : List Int := if p = [0, 0, 0, 0] then [] else sealL key (sealPlace i) p
theorem plain_nil (key : Int) (i : Nat) : plain key i [] = [0, 0, 0, 0] := by simp [plain]
theorem plain_leafFor {key : Int} {i : Nat} {p : List Int} (h4 : p.length = 4) (hb : Bytes p) : plain key i (leafFor key i p) = p := by
  unfold leafFor plain
  by_cases e : p = [0, 0, 0, 0]
  · simp [e]
  · rw [if_neg e, if_neg (by intro h; have h5 := congrArg List.length h; rw [sealL_length, h4] at h5; cases h5), open_sealL _ _ _ hb]
theorem leafFor_plain {key : Int} {i : Nat} {l : List Int} (hl : l = [] ∨ plain key i l ≠ [0, 0, 0, 0]) (hb : Bytes l) : leafFor key i (plain key i l) = l := by
  by_cases e : l = []
  · simp [plain, leafFor, e]
  · have hp : plain key i l = openL key (sealPlace i) l := by simp [plain, e]
    have h0 := hl.resolve_left e
    rw [hp] at h0 ⊢
    unfold leafFor
    rw [if_neg h0, seal_openL _ _ _ hb]
theorem leafFor_04 {key : Int} {i : Nat} {p : List Int} (h4 : p.length = 4) : leafFor key i p = [] ∨ (leafFor key i p).length = 4 := by
  unfold leafFor
  split
  · exact .inl rfl
  · exact .inr (by rw [sealL_length, h4])
theorem plain_length {key : Int} {i : Nat} {l : List Int} (h : l = [] ∨ l.length = 4) : (plain key i l).length = 4 := by
  unfold plain
  split
  · rfl
  · rename_i e
    rw [openL_length]; exact h.resolve_left e
theorem plain_bytes (key : Int) (i : Nat) (l : List Int) : Bytes (plain key i l) := by
  unfold plain
  split
  · intro x hx; simp at hx; omega
  · exact openL_bytes _ _ _
theorem four_zero {l : List Int} (h4 : l.length = 4) (h : ∀ x ∈ l, x = 0) : l = [0, 0, 0, 0] := by
  match l, h4 with
  | [a, b, c, d], _ =>
    have h1 := h a (by simp); have h2 := h b (by simp); have h3 := h c (by simp); have h4 := h d (by simp)
    subst h1 h2 h3 h4; rfl

/-- all the bytes of leaves -/
def fileL (key : Int) (L : Nat → List Int) : List Int := (List.range 256).map fun k => (plain key (k / 4) (L (k / 4))).getD (k % 4) 0
theorem fileL_length (key : Int) (L : Nat → List Int) : (fileL key L).length = 256 := by simp [fileL]
theorem fileL_getD (key : Int) (L : Nat → List Int) (k : Nat) (hk : k < 256) : (fileL key L).getD k 0 = (plain key (k / 4) (L (k / 4))).getD (k % 4) 0 := by simp [fileL, List.getD, hk]
theorem fileL_bytes (key : Int) (L : Nat → List Int) : Bytes (fileL key L) := by
  intro x hx
  obtain ⟨k, _, rfl⟩ := List.mem_map.1 hx
  exact getD_bytes (plain_bytes _ _ _) _
/-- four of many -/
def chunk (l : List Int) (i : Nat) : List Int := (l.drop (4 * i)).take 4
theorem chunk_length {l : List Int} (h : l.length = 256) {i : Nat} (hi : i < 64) : (chunk l i).length = 4 := by simp [chunk, h]; omega
theorem chunk_getD (l : List Int) (i j : Nat) (hj : j < 4) : (chunk l i).getD j 0 = l.getD (4 * i + j) 0 := by
  simp [chunk, List.getD, hj]
theorem chunk_bytes {l : List Int} (h : Bytes l) (i : Nat) : Bytes (chunk l i) := fun x hx => h x (List.mem_of_mem_drop (List.mem_of_mem_take hx))
theorem chunk_fileL (key : Int) (L : Nat → List Int) {i : Nat} (hi : i < 64) (hL : L i = [] ∨ (L i).length = 4) : chunk (fileL key L) i = plain key i (L i) := by
  have h4 := plain_length (key := key) (i := i) hL
  apply list_ext_getD
  · rw [chunk_length (fileL_length _ _) hi, h4]
  · intro j hj
    rw [chunk_length (fileL_length _ _) hi] at hj
    rw [chunk_getD _ _ _ hj, fileL_getD _ _ _ (by omega), show (4 * i + j) / 4 = i by omega, show (4 * i + j) % 4 = j by omega]
theorem fileL_of {key : Int} {L : Nat → List Int} {W : List Int} (hW : W.length = 256) (h : ∀ i, i < 64 → plain key i (L i) = chunk W i) : fileL key L = W := by
  apply list_ext_getD
  · rw [fileL_length, hW]
  · intro k hk
    rw [fileL_length] at hk
    rw [fileL_getD _ _ _ hk, h _ (by omega), chunk_getD _ _ _ (by omega), show 4 * (k / 4) + k % 4 = k by omega]
theorem fileL_congr {key : Int} {L M : Nat → List Int} (h : ∀ i, i < 64 → L i = M i) : fileL key L = fileL key M := by
  unfold fileL
  apply List.map_congr_left
  intro k hk
  rw [h _ (by have := List.mem_range.1 hk; omega)]

/-- so many noughts -/
def zeros (m : Nat) : List Int := List.replicate m 0
theorem zeros_length (m : Nat) : (zeros m).length = m := List.length_replicate
theorem zeros_getD (m k : Nat) : (zeros m).getD k 0 = 0 := by
  unfold zeros
  rw [List.getD_eq_getElem?_getD, List.getElem?_replicate]
  split <;> rfl

/-- a right file -/
structure FileOk (n : Nat) (B : Nat → Blk) (key root size : Int) : Prop where
  kb : 0 ≤ key ∧ key ≤ 1000
  sb : 0 ≤ size ∧ size ≤ 256
  right : Right n B
  rooted : Root n B 3 root
  form : ∀ i, i < 64 → leafAt B 3 root i = [] ∨ plain key i (leafAt B 3 root i) ≠ [0, 0, 0, 0]
  behind : ∀ k : Nat, size ≤ k → k < 256 → (fileL key (leafAt B 3 root)).getD k 0 = 0
theorem FileOk.checked {n : Nat} {B : Nat → Blk} {key root size : Int} (h : FileOk n B key root size) : Checked n B root 3 0 := ⟨h.right, 3, by omega, rfl, h.rooted, by omega, by have := pw_pos 3; omega⟩
theorem FileOk.leaf04 {n : Nat} {B : Nat → Blk} {key root size : Int} (h : FileOk n B key root size) (i : Nat) (hi : i < 64) : leafAt B 3 root i = [] ∨ (leafAt B 3 root i).length = 4 := leafAt_04 h.right 3 root h.rooted i hi
theorem FileOk.ext {n : Nat} {B C : Nat → Blk} {key root size : Int} (h : FileOk n B key root size) (hx : Ext n B C) (hC : Right n C) : FileOk n C key root size ∧ fileL key (leafAt C 3 root) = fileL key (leafAt B 3 root) := by
  have hl : ∀ i, i < 64 → leafAt C 3 root i = leafAt B 3 root i := fun i hi => hx.leaf h.right 3 root h.rooted i hi
  have e : fileL key (leafAt C 3 root) = fileL key (leafAt B 3 root) := fileL_congr hl
  exact ⟨⟨h.kb, h.sb, hC, (hx.root h.rooted).1, fun i hi => by rw [hl i hi]; exact h.form i hi, by rw [e]; exact h.behind⟩, e⟩
theorem fileOk_zero {n : Nat} {B : Nat → Blk} {key size : Int} (hR : Right n B) (hk : 0 ≤ key ∧ key ≤ 1000) (hs : 0 ≤ size ∧ size ≤ 256) : FileOk n B key 0 size ∧ fileL key (leafAt B 3 0) = zeros 256 := by
  have hl : ∀ i, i < 64 → leafAt B 3 0 i = [] := fun i hi => leafAt_zero B 3 i hi
  have e : fileL key (leafAt B 3 0) = zeros 256 := by
    apply fileL_of (zeros_length _)
    intro i hi
    rw [hl i hi, plain_nil]
    apply list_ext_getD
    · rw [chunk_length (zeros_length _) hi]; rfl
    · intro j hj
      simp at hj
      rw [chunk_getD _ _ _ (by omega)]
      rw [zeros_getD]
      match j, hj with
      | 0, _ => rfl
      | 1, _ => rfl
      | 2, _ => rfl
      | 3, _ => rfl
  refine ⟨⟨hk, hs, hR, .inl rfl, fun i hi => .inl (hl i hi), fun k _ hk => ?_⟩, e⟩
  rw [e, zeros_getD]

/-- with noughts behind, 256 in all -/
def padTo (N : List Int) : List Int := N ++ zeros (256 - N.length)
theorem padTo_length {N : List Int} (h : N.length ≤ 256) : (padTo N).length = 256 := by unfold padTo; rw [List.length_append, zeros_length]; omega
theorem padTo_getD (N : List Int) (k : Nat) : (padTo N).getD k 0 = N.getD k 0 := by
  unfold padTo
  by_cases h : k < N.length
  · rw [List.getD_eq_getElem?_getD, List.getElem?_append_left h, List.getD_eq_getElem?_getD]
  · have h1 := zeros_getD (256 - N.length) (k - N.length)
    rw [List.getD_eq_getElem?_getD] at h1
    rw [List.getD_eq_getElem?_getD, List.getElem?_append_right (by omega), h1, List.getD_eq_getElem?_getD, List.getElem?_eq_none (by omega)]
    rfl
theorem padTo_bytes {N : List Int} (h : Bytes N) : Bytes (padTo N) := by
  intro x hx
  rcases List.mem_append.1 hx with h' | h'
  · exact h x h'
  · have := List.eq_of_mem_replicate (show x ∈ List.replicate _ 0 from h'); omega
theorem padTo_take {W : List Int} (hW : W.length = 256) {s : Nat} (hs : s ≤ 256) (hz : ∀ k, s ≤ k → k < 256 → W.getD k 0 = 0) : padTo (W.take s) = W := by
  have hl : (W.take s).length = s := by simp [hW]; omega
  apply list_ext_getD
  · rw [padTo_length (by omega), hW]
  · intro k hk
    rw [padTo_length (by omega)] at hk
    rw [padTo_getD]
    by_cases h : k < s
    · simp [List.getD, h]
    · rw [hz k (by omega) hk]
      simp [List.getD, List.getElem?_eq_none (by omega : (W.take s).length ≤ k)]
theorem splice_pad {N : List Int} (h : N.length ≤ 256) : splice ((zeros 256).map (Value.int .u8)) 0 (N.map (Value.int .u8)) = (padTo N).map (Value.int .u8) := by
  have e : (zeros 256).drop N.length = zeros (256 - N.length) := by unfold zeros; rw [List.drop_replicate]
  unfold splice padTo
  rw [List.length_map, Nat.zero_add, ← List.map_drop, e, List.map_append]
  rfl

/-- how many of the first j leaves differ -/
def chg (O W : List Int) : Nat → Nat
  | 0 => 0
  | j + 1 => chg O W j + if chunk O j = chunk W j then 0 else 1
theorem chg_mono (O W : List Int) {i j : Nat} (h : i ≤ j) : chg O W i ≤ chg O W j := by
  induction j with
  | zero => obtain rfl : i = 0 := by omega
            exact Nat.le_refl _
  | succ j ih =>
    by_cases e : i = j + 1
    · subst e; exact Nat.le_refl _
    · have := ih (by omega); simp only [chg]; omega
theorem chg_le (O W : List Int) (j : Nat) : chg O W j ≤ j := by
  induction j with
  | zero => exact Nat.le_refl _
  | succ j ih => simp only [chg]; split <;> omega
theorem chg_same (O : List Int) (j : Nat) : chg O O j = 0 := by
  induction j with
  | zero => rfl
  | succ j ih => simp [chg, ih]
/-- the leaf that stands at place i then -/
def newLeaf (key : Int) (L : Nat → List Int) (O W : List Int) (i : Nat) : List Int := if chunk O i = chunk W i then L i else leafFor key i (chunk W i)

/-- a store on the way -/
structure WSt (n : Nat) (B C : Nat → Blk) (a cc : Int) : Prop where
  right : Right n C
  ext : Ext n B C
  root : Root n C 3 a
  few : ∀ k, k < n → (C k).refs ≤ cc + 48
theorem Turned.wst {n : Nat} {B C : Nat → Blk} {a cc : Int} (h : Turned n B C a (cc + 48)) : WSt n B C a cc := ⟨h.right, h.ext, h.root, h.few⟩
/-- how turn came to it: put by put -/
inductive Ways (n : Nat) (B : Nat → Blk) (key : Int) (O W : List Int) (cc : Int) : Int → Nat → (Nat → Blk) → Int → Prop
  | zero : Ways n B key O W cc 0 0 B 0
  | kept (m : Nat) : Ways n B key O W cc ((m : Int) + 1) 0 (keptB B ((m : Int) + 1)) ((m : Int) + 1)
  | same {root : Int} {j : Nat} {C : Nat → Blk} {a : Int} : Ways n B key O W cc root j C a → chunk O j = chunk W j → Ways n B key O W cc root (j + 1) C a
  | put0 {root : Int} {j : Nat} {C D : Nat → Blk} {a' c' : Int} : Ways n B key O W cc root j C 0 → chunk O j ≠ chunk W j → j < 64 → WSt n B C 0 cc → PutOk n C 3 0 j (leafFor key j (chunk W j)) c' D a' → Ways n B key O W cc root (j + 1) D a'
  | put {root : Int} {j m : Nat} {C D E : Nat → Blk} {a' c' : Int} : Ways n B key O W cc root j C ((m : Int) + 1) → chunk O j ≠ chunk W j → j < 64 → WSt n B C ((m : Int) + 1) cc → PutOk n C 3 ((m : Int) + 1) j (leafFor key j (chunk W j)) c' D a' → WSt n B E a' cc → Fell n D E [(m : Int) + 1] → Ways n B key O W cc root (j + 1) E a'
/-- what turn has made of the first j leaves -/
structure TurnAt (n : Nat) (B C : Nat → Blk) (key root : Int) (O W : List Int) (j : Nat) (a : Int) (cc : Int) : Prop where
  turned : Turned n B C a (cc + 48)
  base : ∀ k, k < n → (B k).refs ≤ cc
  used : usedTo C n ≤ usedTo B n + 4 * chg O W j
  leaf : ∀ i, i < 64 → leafAt C 3 a i = if i < j then newLeaf key (leafAt B 3 root) O W i else leafAt B 3 root i
  still : chg O W j = 0 → a = root
  fro : ∀ x, Clo C [a] x → (B (x - 1).toNat).refs = 0 ∨ Clo B [root] x
  way : Ways n B key O W cc root j C a

theorem clo_kept {B : Nat → Blk} {i : Nat} {l : List Int} {x : Int} (h : Clo (keptB B ((i : Int) + 1)) l x) : Clo B l x :=
  h (Clo B l) (fun r hr h0 => Clo.root hr h0) fun y hy k hk h0 => hy.kid (by
    by_cases e : (y - 1).toNat = i
    · rw [e] at hk ⊢
      rw [kept_same] at hk
      exact hk
    · rw [kept_other e] at hk
      exact hk) h0
/-- what is reached behind a Drop was reached ahead of it -/
theorem clo_fell {n : Nat} {D E : Nat → Blk} {T : List Int} {a x : Int} (hF : Fell n D E T) (hE : Right n E) (ha : a = 0 ∨ There n E a) (h : Clo E [a] x) : Clo D [a] x :=
  (clo_behind hE hF (fun r hr => by rw [List.mem_singleton.1 hr]; exact ha) x).2 h
theorem TurnAt.fro_put {n : Nat} {B C D : Nat → Blk} {key root a a' cc c' : Int} {O W : List Int} {j i : Nat} {bs : List Int} (h : TurnAt n B C key root O W j a cc) (hp : PutOk n C 3 a i bs c' D a') {x : Int} (hx : Clo D [a'] x) : (B (x - 1).toNat).refs = 0 ∨ Clo B [root] x := by
  rcases hp.from' h.turned.right h.turned.root hx with h1 | h1
  · by_cases e : (B (x - 1).toNat).refs = 0
    · exact .inl e
    · by_cases hxn : (x - 1).toNat < n
      · exact absurd h1 (h.turned.ext.keep _ hxn e).1
      · have ht := hx.there hp.grew.right (fun r hr => by rw [List.mem_singleton.1 hr]; exact hp.grew.root.imp id fun h => h.1)
        exact absurd (ix ht.1 ht.2.1).1 hxn
  · exact h.fro x h1
theorem turnAt_zero {n : Nat} {B : Nat → Blk} {key cc : Int} {O W : List Int} (hR : Right n B) (hc : ∀ k, k < n → (B k).refs ≤ cc) : TurnAt n B B key 0 O W 0 0 cc :=
  ⟨turned_zero hR (fun k hk => by have := hc k hk; omega), hc, by simp [chg], fun i _ => by rw [if_neg (by omega)], fun _ => rfl, fun x h => .inr h, .zero⟩
theorem turnAt_kept {n : Nat} {B : Nat → Blk} {key cc : Int} {O W : List Int} {m : Nat} (hR : Right n B) (hr : Root n B 3 ((m : Int) + 1)) (hcm : cc ≤ 999999) (hc : ∀ k, k < n → (B k).refs ≤ cc) : TurnAt n B (keptB B ((m : Int) + 1)) key ((m : Int) + 1) O W 0 ((m : Int) + 1) cc := by
  have ht := turned_kept hR hr hcm hc
  refine ⟨⟨ht.right, ht.ext, ht.root, ht.out, fun k hk => by have := ht.few k hk; omega, ht.newk⟩, hc, ?_, fun i hi => ?_, fun _ => rfl, fun x h => .inr (clo_kept h), .kept m⟩
  · have h0 : (B m).refs ≠ 0 := by
      rcases hr with h | ⟨⟨_, _, h⟩, _⟩
      · omega
      · rwa [show ((m : Int) + 1 - 1).toNat = m by omega] at h
    have := used_kept (i := m) hR h0
    simp [chg]; exact this
  · rw [if_neg (by omega)]
    exact ht.ext.leaf hR 3 _ hr i hi
theorem TurnAt.same {n : Nat} {B C : Nat → Blk} {key root a cc : Int} {O W : List Int} {j : Nat} (h : TurnAt n B C key root O W j a cc) (hj : j < 64) (e : chunk O j = chunk W j) : TurnAt n B C key root O W (j + 1) a cc := by
  have ec : chg O W (j + 1) = chg O W j := by simp [chg, e]
  refine ⟨h.turned, h.base, by rw [ec]; exact h.used, fun i hi => ?_, by rw [ec]; exact h.still, h.fro, .same h.way e⟩
  rw [h.leaf i hi]
  by_cases h1 : i < j
  · rw [if_pos h1, if_pos (by omega)]
  · by_cases h2 : i = j
    · subst h2
      rw [if_neg h1, if_pos (by omega)]
      simp [newLeaf, e]
    · rw [if_neg h1, if_neg (by omega)]
theorem TurnAt.step0 {n : Nat} {B C D : Nat → Blk} {key root a' cc c' : Int} {O W : List Int} {j : Nat} (hB : Right n B) (h : TurnAt n B C key root O W j 0 cc) (h1 : 64 ≤ cc) (hj : j < 64) (e : chunk O j ≠ chunk W j) (hp : PutOk n C 3 0 j (leafFor key j (chunk W j)) c' D a') : TurnAt n B D key root O W (j + 1) a' cc := by
  have ec : chg O W (j + 1) = chg O W j + 1 := by simp [chg, e]
  have ht := h.turned.put0 hB h1 h.base hp
  refine ⟨ht, h.base, ?_, fun i hi => ?_, fun h0 => by omega, fun x hx => h.fro_put hp hx, .put0 h.way e hj h.turned.wst hp⟩
  · rw [ec]; have := hp.grew.used; have := h.used; omega
  · rw [hp.leaf i hi, h.leaf i hi]
    by_cases h2 : i = j
    · subst h2; rw [if_pos rfl, if_pos (by omega)]; simp [newLeaf, e]
    · rw [if_neg h2]
      by_cases h3 : i < j
      · rw [if_pos h3, if_pos (by omega)]
      · rw [if_neg h3, if_neg (by omega)]
theorem TurnAt.step {n : Nat} {B C D E : Nat → Blk} {key root a' cc c' : Int} {O W : List Int} {j m : Nat} (hB : Right n B) (h : TurnAt n B C key root O W j ((m : Int) + 1) cc) (h1 : 64 ≤ cc) (hj : j < 64) (e : chunk O j ≠ chunk W j) (hp : PutOk n C 3 ((m : Int) + 1) j (leafFor key j (chunk W j)) c' D a') (hE : Right n E) (hF : Fell n D E [(m : Int) + 1]) : TurnAt n B E key root O W (j + 1) a' cc := by
  have ec : chg O W (j + 1) = chg O W j + 1 := by simp [chg, e]
  obtain ⟨ht, hl, hu⟩ := h.turned.drop hB h1 h.base hp hE hF
  refine ⟨ht, h.base, ?_, fun i hi => ?_, fun h0 => by omega, fun x hx => h.fro_put hp (clo_fell hF hE (ht.root.imp id fun h => h.1) hx), .put h.way e hj h.turned.wst hp ht.wst hF⟩
  · rw [ec]; have := hp.grew.used; have := h.used; omega
  · rw [hl i hi, hp.leaf i hi, h.leaf i hi]
    by_cases h2 : i = j
    · subst h2; rw [if_pos rfl, if_pos (by omega)]; simp [newLeaf, e]
    · rw [if_neg h2]
      by_cases h3 : i < j
      · rw [if_pos h3, if_pos (by omega)]
      · rw [if_neg h3, if_neg (by omega)]

/-- what turn makes at last is a right file of those bytes -/
theorem TurnAt.file {n : Nat} {B C : Nat → Blk} {key root a cc size : Int} {N : List Int} (hok : FileOk n B key root size) (hN : N.length ≤ 256) (hb : Bytes N) (h : TurnAt n B C key root (fileL key (leafAt B 3 root)) (padTo N) 64 a cc) :
    FileOk n C key a (N.length : Int) ∧ fileL key (leafAt C 3 a) = padTo N ∧ (∀ i, i < 64 → leafAt C 3 a i = newLeaf key (leafAt B 3 root) (fileL key (leafAt B 3 root)) (padTo N) i) := by
  have hl : ∀ i, i < 64 → leafAt C 3 a i = newLeaf key (leafAt B 3 root) (fileL key (leafAt B 3 root)) (padTo N) i := fun i hi => by rw [h.leaf i hi, if_pos hi]
  have hpl : ∀ i, i < 64 → plain key i (leafAt C 3 a i) = chunk (padTo N) i := fun i hi => by
    rw [hl i hi]
    unfold newLeaf
    by_cases e : chunk (fileL key (leafAt B 3 root)) i = chunk (padTo N) i
    · rw [if_pos e, ← e, chunk_fileL _ _ hi (hok.leaf04 i hi)]
    · rw [if_neg e, plain_leafFor (chunk_length (padTo_length hN) hi) (chunk_bytes (padTo_bytes hb) i)]
  have hf : fileL key (leafAt C 3 a) = padTo N := fileL_of (padTo_length hN) hpl
  refine ⟨⟨hok.kb, by omega, h.turned.right, h.turned.root, fun i hi => ?_, fun k h1 h2 => ?_⟩, hf, hl⟩
  · by_cases e : chunk (fileL key (leafAt B 3 root)) i = chunk (padTo N) i
    · have e2 : leafAt C 3 a i = leafAt B 3 root i := by rw [hl i hi]; simp [newLeaf, e]
      rw [e2]; exact hok.form i hi
    · by_cases e0 : chunk (padTo N) i = [0, 0, 0, 0]
      · left; rw [hl i hi]; simp only [newLeaf]; rw [if_neg e]; simp [leafFor, e0]
      · right; rw [hpl i hi]; exact e0
  · rw [hf, padTo_getD]
    simp [List.getD, List.getElem?_eq_none (by omega : N.length ≤ k)]

/-- more laid over b from at on -/
def overL (b : List Int) (at' : Nat) (more : List Int) : List Int := if more = [] then b else splice (splice (zeros (max b.length (at' + more.length))) 0 b) at' more
theorem overL_length (b : List Int) (at' : Nat) (more : List Int) : (overL b at' more).length = if more = [] then b.length else max b.length (at' + more.length) := by
  unfold overL
  split
  · rfl
  · have h1 : (splice (zeros (max b.length (at' + more.length))) 0 b).length = max b.length (at' + more.length) := by
      rw [length_splice _ _ _ (by rw [zeros_length]; omega), zeros_length]
    rw [length_splice _ _ _ (by rw [h1]; omega), h1]
theorem splice_getD (L : List Int) (off : Nat) (cs : List Int) (h : off + cs.length ≤ L.length) (k : Nat) : (splice L off cs).getD k 0 = if off ≤ k ∧ k < off + cs.length then cs.getD (k - off) 0 else L.getD k 0 := by
  unfold splice
  have ht : (L.take off).length = off := by simp; omega
  by_cases h1 : k < off
  · rw [if_neg (by omega)]
    simp [List.getD, List.getElem?_append_left (by omega : k < (L.take off).length), h1]
  · by_cases h2 : k < off + cs.length
    · rw [if_pos ⟨by omega, h2⟩]
      simp [List.getD, List.getElem?_append_right (by omega : (L.take off).length ≤ k), ht, List.getElem?_append_left (by omega : k - off < cs.length)]
    · rw [if_neg (by omega)]
      simp only [List.getD, List.getElem?_append_right (by omega : (L.take off).length ≤ k), ht, List.getElem?_append_right (by omega : cs.length ≤ k - off), List.getElem?_drop]
      rw [show off + cs.length + (k - off - cs.length) = k by omega]
theorem overL_getD (b : List Int) (at' : Nat) (more : List Int) (k : Nat) : (overL b at' more).getD k 0 = if at' ≤ k ∧ k < at' + more.length then more.getD (k - at') 0 else b.getD k 0 := by
  unfold overL
  split
  · rename_i e
    subst e
    rw [if_neg (by simp)]
  · have h0 : (splice (zeros (max b.length (at' + more.length))) 0 b).length = max b.length (at' + more.length) := by
      rw [length_splice _ _ _ (by rw [zeros_length]; omega), zeros_length]
    rw [splice_getD _ _ _ (by rw [h0]; omega), splice_getD _ _ _ (by rw [zeros_length]; omega), zeros_getD]
    by_cases h1 : at' ≤ k ∧ k < at' + more.length
    · rw [if_pos h1, if_pos h1]
    · rw [if_neg h1, if_neg h1]
      by_cases h2 : k < b.length
      · rw [if_pos (by omega)]; simp
      · rw [if_neg (by omega)]
        simp [List.getD, List.getElem?_eq_none (by omega : b.length ≤ k)]
theorem overL_bytes {b : List Int} {at' : Nat} {more : List Int} (hb : Bytes b) (hm : Bytes more) : Bytes (overL b at' more) := by
  intro x hx
  obtain ⟨k, hk, rfl⟩ := List.mem_iff_getElem.1 hx
  have e : (overL b at' more).getD k 0 = (overL b at' more)[k] := by simp [List.getD, hk]
  rw [← e, overL_getD]
  split
  · exact getD_bytes hm _
  · exact getD_bytes hb _
theorem overL_self (b : List Int) : overL b 0 b = b := by
  apply list_ext_getD
  · rw [overL_length]
    split
    · rfl
    · omega
  · intro k _
    rw [overL_getD]
    split
    · simp
    · rfl
theorem overL_nil (b : List Int) : overL [] 0 b = b := by
  apply list_ext_getD
  · rw [overL_length]
    split
    · rename_i e; simp [e]
    · simp
  · intro k hk
    rw [overL_getD]
    split
    · simp
    · rename_i h
      have : ¬ k < b.length := by omega
      simp [List.getD, List.getElem?_eq_none (by omega : b.length ≤ k)]
end Go.Proofs.Ytaagnojdpedilad
