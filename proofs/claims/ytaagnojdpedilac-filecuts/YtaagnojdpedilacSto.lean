/-
  Stores, told without memory: blocks, what is right, what stands how often among kids, what is let go. Nothing here is trusted.
-/
set_option linter.unusedVariables false
namespace Go.Proofs.Ytaagnojdpedilac

structure Blk where
  refs : Int
  level : Int
  kids : List Int
  bytes : List Int

def Blk.zero : Blk := ⟨0, 0, [], []⟩

def upd (B : Nat → Blk) (i : Nat) (b : Blk) : Nat → Blk := fun j => if j = i then b else B j
theorem upd_same (B : Nat → Blk) (i : Nat) (b : Blk) : upd B i b i = b := by simp [upd]
theorem upd_other (B : Nat → Blk) (i j : Nat) (b : Blk) (h : j ≠ i) : upd B i b j = B j := by simp [upd, h]

def sumTo (f : Nat → Nat) : Nat → Nat
  | 0 => 0
  | n + 1 => sumTo f n + f n

theorem sumTo_congr {f g : Nat → Nat} : ∀ {n : Nat}, (∀ i, i < n → f i = g i) → sumTo f n = sumTo g n
  | 0, _ => rfl
  | n + 1, h => by simp only [sumTo]; rw [sumTo_congr (fun i hi => h i (by omega)), h n (by omega)]
theorem sumTo_ge {f : Nat → Nat} : ∀ {n i : Nat}, i < n → f i ≤ sumTo f n
  | n + 1, i, h => by
    simp only [sumTo]
    by_cases e : i = n
    · subst e; omega
    · have := sumTo_ge (f := f) (show i < n by omega); omega
theorem sumTo_pos {f : Nat → Nat} : ∀ {n : Nat}, 0 < sumTo f n → ∃ i, i < n ∧ 0 < f i
  | n + 1, h => by
    simp only [sumTo] at h
    by_cases e : 0 < f n
    · exact ⟨n, by omega, e⟩
    · obtain ⟨i, hi, hf⟩ := sumTo_pos (f := f) (n := n) (by omega)
      exact ⟨i, by omega, hf⟩
theorem sumTo_one {f g : Nat → Nat} {i : Nat} : ∀ {n : Nat}, i < n → (∀ j, j ≠ i → f j = g j) → sumTo f n + g i = sumTo g n + f i
  | n + 1, hi, h => by
    simp only [sumTo]
    by_cases e : i = n
    · subst e
      rw [sumTo_congr (f := f) (g := g) (fun j hj => h j (by omega))]; omega
    · have := sumTo_one (f := f) (g := g) (n := n) (i := i) (by omega) h
      rw [h n (by omega)]; omega

/-- how often the address stands among the kids -/
def among (n : Nat) (B : Nat → Blk) (a : Int) : Nat := sumTo (fun i => (B i).kids.count a) n
theorem among_upd {n : Nat} {B : Nat → Blk} {i : Nat} (b : Blk) (a : Int) (hi : i < n) : among n (upd B i b) a + (B i).kids.count a = among n B a + b.kids.count a := by
  have := sumTo_one (f := fun j => (upd B i b j).kids.count a) (g := fun j => (B j).kids.count a) hi (fun j hj => by simp [upd, hj])
  simpa [among, upd] using this
theorem among_congr {n : Nat} {B C : Nat → Blk} (a : Int) (h : ∀ i, i < n → (B i).kids = (C i).kids) : among n B a = among n C a :=
  sumTo_congr fun i hi => by rw [h i hi]
theorem among_ge {n : Nat} {B : Nat → Blk} {i : Nat} (a : Int) (hi : i < n) : (B i).kids.count a ≤ among n B a := sumTo_ge (f := fun j => (B j).kids.count a) hi

def There (n : Nat) (B : Nat → Blk) (a : Int) : Prop := 1 ≤ a ∧ a ≤ n ∧ (B (a - 1).toNat).refs ≠ 0

def KidsOk (n : Nat) (B : Nat → Blk) (lv : Int) (l : List Int) : Prop := ∀ k ∈ l, k = 0 ∨ (There n B k ∧ (B (k - 1).toNat).level = lv - 1)

def Form (n : Nat) (B : Nat → Blk) (b : Blk) : Prop :=
  (b.refs = 0 ∧ b.level = 0 ∧ b.kids = [] ∧ b.bytes = []) ∨
  ((1 ≤ b.refs ∧ b.refs ≤ 1000000 ∧ 0 ≤ b.level ∧ b.level ≤ 3) ∧
    ((b.level = 0 ∧ b.kids = [] ∧ b.bytes.length = 4) ∨
     (1 ≤ b.level ∧ b.kids.length = 4 ∧ b.bytes = [] ∧ KidsOk n B b.level b.kids ∧ ∃ k ∈ b.kids, k ≠ 0)))

theorem Form.kids {n : Nat} {B : Nat → Blk} {b : Blk} (h : Form n B b) : KidsOk n B b.level b.kids := by
  rcases h with ⟨_, _, h, _⟩ | ⟨_, ⟨_, h, _⟩ | ⟨_, _, _, h, _⟩⟩
  · simp [KidsOk, h]
  · simp [KidsOk, h]
  · exact h
theorem Form.live {n : Nat} {B : Nat → Blk} {b : Blk} (h : Form n B b) {k : Int} (hk : k ∈ b.kids) : 1 ≤ b.refs ∧ b.refs ≤ 1000000 ∧ 1 ≤ b.level ∧ b.level ≤ 3 := by
  rcases h with ⟨_, _, h, _⟩ | ⟨hr, ⟨_, h, _⟩ | ⟨hl, _, _, h, _⟩⟩
  · simp [h] at hk
  · simp [h] at hk
  · omega
theorem Form.bounds {n : Nat} {B : Nat → Blk} {b : Blk} (h : Form n B b) : 0 ≤ b.refs ∧ b.refs ≤ 1000000 ∧ 0 ≤ b.level ∧ b.level ≤ 3 := by
  rcases h with ⟨h, h', _, _⟩ | ⟨hr, _⟩ <;> omega
theorem Form.zero {n : Nat} {B : Nat → Blk} {b : Blk} (h : Form n B b) (h0 : b.refs = 0) : b = Blk.zero := by
  rcases h with ⟨h1, h2, h3, h4⟩ | ⟨hr, _⟩
  · cases b; simp_all [Blk.zero]
  · omega
theorem form_zero (n : Nat) (B : Nat → Blk) : Form n B Blk.zero := .inl ⟨rfl, rfl, rfl, rfl⟩
theorem KidsOk.turn {n : Nat} {B C : Nat → Blk} {lv : Int} {l : List Int} (h : KidsOk n B lv l) (hc : ∀ k ∈ l, There n B k → There n C k ∧ (C (k - 1).toNat).level = (B (k - 1).toNat).level) : KidsOk n C lv l := by
  intro k hk
  rcases h k hk with h | ⟨ht, hl⟩
  · exact .inl h
  · have := hc k hk ht
    exact .inr ⟨this.1, by rw [this.2, hl]⟩
theorem Form.turn {n : Nat} {B C : Nat → Blk} {b c : Blk} (h : Form n B b) (hl : c.level = b.level) (hk : c.kids = b.kids) (hb : c.bytes = b.bytes)
    (hr : c.refs = b.refs ∨ (b.refs ≠ 0 ∧ 1 ≤ c.refs ∧ c.refs ≤ 1000000)) (hc : ∀ k ∈ b.kids, There n B k → There n C k ∧ (C (k - 1).toNat).level = (B (k - 1).toNat).level) : Form n C c := by
  unfold Form
  rw [hl, hk, hb]
  rcases h with ⟨h1, h2, h3, h4⟩ | ⟨h1, h2⟩
  · exact .inl ⟨by omega, h2, h3, h4⟩
  · have hb' : 1 ≤ c.refs ∧ c.refs ≤ 1000000 ∧ 0 ≤ b.level ∧ b.level ≤ 3 := by clear h2; omega
    refine .inr ⟨hb', ?_⟩
    rcases h2 with h2 | ⟨h3, h4, h5, h6, h7⟩
    · exact .inl h2
    · exact .inr ⟨h3, h4, h5, h6.turn hc, h7⟩

/-- right, where besides what the blocks hold each one of T is held once -/
structure RightT (n : Nat) (B : Nat → Blk) (T : List Int) : Prop where
  small : n ≤ 400
  one : ∀ i, i < n → Form n B (B i)
  held : ∀ i, i < n → (among n B ((i : Int) + 1) : Int) + (T.count ((i : Int) + 1) : Int) ≤ (B i).refs
  pend : ∀ k ∈ T, k = 0 ∨ (1 ≤ k ∧ k ≤ n)

abbrev Right (n : Nat) (B : Nat → Blk) : Prop := RightT n B []

theorem ix {n : Nat} {a : Int} (h1 : 1 ≤ a) (h2 : a ≤ n) : (a - 1).toNat < n ∧ ((a - 1).toNat : Int) + 1 = a := by omega

theorem RightT.there {n : Nat} {B : Nat → Blk} {T : List Int} (h : RightT n B T) {k : Int} (hk : k ∈ T) (h0 : k ≠ 0) : There n B k ∧ 1 ≤ (B (k - 1).toNat).refs := by
  rcases h.pend k hk with e | ⟨h1, h2⟩
  · exact absurd e h0
  · obtain ⟨hi, he⟩ := ix h1 h2
    have := h.held _ hi
    rw [he] at this
    have c := List.count_pos_iff.2 hk
    exact ⟨⟨h1, h2, by omega⟩, by omega⟩
theorem RightT.skip {n : Nat} {B : Nat → Blk} {T : List Int} (h : RightT n B (0 :: T)) : RightT n B T :=
  ⟨h.small, h.one, fun i hi => by have := h.held i hi; rw [List.count_cons_of_ne (by omega)] at this; exact this, fun k hk => h.pend k (List.mem_cons_of_mem _ hk)⟩
theorem RightT.less {n : Nat} {B : Nat → Blk} {T : List Int} {a : Int} (h : RightT n B (a :: T)) : RightT n B T :=
  ⟨h.small, h.one, fun i hi => by have := h.held i hi; rw [List.count_cons] at this; split at this <;> omega, fun k hk => h.pend k (List.mem_cons_of_mem _ hk)⟩

theorem step_more {n : Nat} {B : Nat → Blk} {T : List Int} {a : Int} (h : RightT n B (a :: T)) (h1 : 1 ≤ a) (h2 : a ≤ n) (hr : 1 < (B (a - 1).toNat).refs) :
    RightT n (upd B (a - 1).toNat { B (a - 1).toNat with refs := (B (a - 1).toNat).refs - 1 }) T := by
  obtain ⟨hi, he⟩ := ix h1 h2
  generalize (a - 1).toNat = i at *
  have ham : ∀ x, among n (upd B i { B i with refs := (B i).refs - 1 }) x = among n B x := fun x => among_congr x fun j hj => by
    by_cases e : j = i
    · subst e; rw [upd_same]
    · rw [upd_other _ _ _ _ e]
  have hth : ∀ k, There n B k → There n (upd B i { B i with refs := (B i).refs - 1 }) k ∧ (upd B i { B i with refs := (B i).refs - 1 } (k - 1).toNat).level = (B (k - 1).toNat).level := by
    intro k ⟨k1, k2, k3⟩
    by_cases e : (k - 1).toNat = i
    · rw [e, upd_same]
      exact ⟨⟨k1, k2, by rw [e, upd_same]; show (B i).refs - 1 ≠ 0; omega⟩, rfl⟩
    · rw [upd_other _ _ _ _ e]
      exact ⟨⟨k1, k2, by rw [upd_other _ _ _ _ e]; exact k3⟩, rfl⟩
  refine ⟨h.small, fun j hj => ?_, fun j hj => ?_, fun k hk => h.pend k (List.mem_cons_of_mem _ hk)⟩
  · by_cases e : j = i
    · subst e
      rw [upd_same]
      have := (h.one j hj).bounds
      exact (h.one j hj).turn rfl rfl rfl (.inr ⟨by omega, by show 1 ≤ (B j).refs - 1; omega, by show (B j).refs - 1 ≤ 1000000; omega⟩) fun k _ => hth k
    · rw [upd_other _ _ _ _ e]
      exact (h.one j hj).turn rfl rfl rfl (.inl rfl) fun k _ => hth k
  · rw [ham]
    have := h.held j hj
    by_cases e : j = i
    · subst e
      rw [upd_same]
      rw [he, List.count_cons_self] at this
      rw [he]
      show _ ≤ (B j).refs - 1
      omega
    · rw [upd_other _ _ _ _ e]
      rw [List.count_cons_of_ne (by omega)] at this
      exact this

theorem among_kid {n : Nat} {B : Nat → Blk} {a : Int} (h0 : among n B a = 0) {j : Nat} (hj : j < n) : a ∉ (B j).kids := by
  have := among_ge (n := n) (B := B) a hj
  intro hm
  have := List.count_pos_iff.2 hm
  omega

theorem step_free {n : Nat} {B : Nat → Blk} {T : List Int} {a : Int} (h : RightT n B (a :: T)) (h1 : 1 ≤ a) (h2 : a ≤ n) (hr : ¬ 1 < (B (a - 1).toNat).refs) :
    RightT n (upd B (a - 1).toNat Blk.zero) ((B (a - 1).toNat).kids ++ T) ∧ (B (a - 1).toNat).refs = 1 ∧ among n B a = 0 := by
  obtain ⟨hi, he⟩ := ix h1 h2
  have hh := h.held _ hi
  rw [he, List.count_cons_self] at hh
  generalize (a - 1).toNat = i at *
  have hr1 : (B i).refs = 1 := by omega
  have ha0 : among n B a = 0 := by omega
  have ht0 : T.count a = 0 := by omega
  refine ⟨⟨h.small, fun j hj => ?_, fun j hj => ?_, fun k hk => ?_⟩, hr1, ha0⟩
  · by_cases e : j = i
    · subst e; rw [upd_same]; exact form_zero _ _
    · rw [upd_other _ _ _ _ e]
      refine (h.one j hj).turn rfl rfl rfl (.inl rfl) fun k hk ⟨k1, k2, k3⟩ => ?_
      have hne : (k - 1).toNat ≠ i := fun e2 => among_kid ha0 hj (by have : k = a := by omega
                                                                     rw [← this]; exact hk)
      rw [upd_other _ _ _ _ hne]
      exact ⟨⟨k1, k2, by rw [upd_other _ _ _ _ hne]; exact k3⟩, rfl⟩
  · have hu := among_upd (n := n) (B := B) Blk.zero ((j : Int) + 1) hi
    have hz : Blk.zero.kids.count ((j : Int) + 1) = 0 := by simp [Blk.zero]
    rw [hz] at hu
    rw [List.count_append]
    by_cases e : j = i
    · subst e
      rw [upd_same]
      rw [he] at hu ⊢
      show _ ≤ (0 : Int)
      omega
    · rw [upd_other _ _ _ _ e]
      have := h.held j hj
      rw [List.count_cons_of_ne (by omega)] at this
      omega
  · rcases List.mem_append.1 hk with hk | hk
    · rcases (h.one i hi).kids k hk with h | ⟨⟨h1, h2, _⟩, _⟩
      · exact .inl h
      · exact .inr ⟨h1, h2⟩
    · exact h.pend k (List.mem_cons_of_mem _ hk)

/-- B has come to be C, where each one of T was let go: what somebody outside holds is less by that; all else stays, or is free -/
structure Fell (n : Nat) (B C : Nat → Blk) (T : List Int) : Prop where
  same : ∀ i, i < n → C i = Blk.zero ∨ (1 ≤ (C i).refs ∧ (C i).refs ≤ (B i).refs ∧ (C i).level = (B i).level ∧ (C i).kids = (B i).kids ∧ (C i).bytes = (B i).bytes)
  out : ∀ i, i < n → (C i).refs - (among n C ((i : Int) + 1) : Int) = (B i).refs - (among n B ((i : Int) + 1) : Int) - (T.count ((i : Int) + 1) : Int)

theorem Fell.trans {n : Nat} {B C D : Nat → Blk} {S T : List Int} (h : Fell n B C S) (k : Fell n C D T) : Fell n B D (S ++ T) := by
  refine ⟨fun i hi => ?_, fun i hi => ?_⟩
  · rcases k.same i hi with e | ⟨r1, r2, r3, r4, r5⟩
    · exact .inl e
    · rcases h.same i hi with e | ⟨s1, s2, s3, s4, s5⟩
      · rw [e] at r2
        have : Blk.zero.refs = 0 := rfl
        omega
      · exact .inr ⟨r1, by omega, by rw [r3, s3], by rw [r4, s4], by rw [r5, s5]⟩
  · have := h.out i hi
    have := k.out i hi
    rw [List.count_append]
    omega
theorem fell_nil {n : Nat} {B : Nat → Blk} (h : ∀ i, i < n → Form n B (B i)) : Fell n B B [] := by
  refine ⟨fun i hi => ?_, fun i hi => by simp⟩
  by_cases e : (B i).refs = 0
  · exact .inl ((h i hi).zero e)
  · have := (h i hi).bounds
    exact .inr ⟨by omega, Int.le_refl _, rfl, rfl, rfl⟩
theorem Fell.skip {n : Nat} {B C : Nat → Blk} {T : List Int} (h : Fell n B C T) : Fell n B C (0 :: T) :=
  ⟨h.same, fun i hi => by rw [List.count_cons_of_ne (by omega)]; exact h.out i hi⟩
theorem fell_more {n : Nat} {B : Nat → Blk} {a : Int} (h : ∀ i, i < n → Form n B (B i)) (h1 : 1 ≤ a) (h2 : a ≤ n) (hr : 1 < (B (a - 1).toNat).refs) :
    Fell n B (upd B (a - 1).toNat { B (a - 1).toNat with refs := (B (a - 1).toNat).refs - 1 }) [a] := by
  obtain ⟨hi, he⟩ := ix h1 h2
  generalize (a - 1).toNat = i at *
  have ham : ∀ x, among n (upd B i { B i with refs := (B i).refs - 1 }) x = among n B x := fun x => among_congr x fun j hj => by
    by_cases e : j = i
    · subst e; rw [upd_same]
    · rw [upd_other _ _ _ _ e]
  refine ⟨fun j hj => ?_, fun j hj => ?_⟩
  · by_cases e : j = i
    · subst e
      rw [upd_same]
      exact .inr ⟨by show 1 ≤ (B j).refs - 1; omega, by show (B j).refs - 1 ≤ _; omega, rfl, rfl, rfl⟩
    · rw [upd_other _ _ _ _ e]
      exact (fell_nil h).same j hj
  · rw [ham]
    by_cases e : j = i
    · subst e
      rw [upd_same, he]
      show (B j).refs - 1 - _ = _
      simp; omega
    · rw [upd_other _ _ _ _ e, List.count_cons_of_ne (by omega)]
      simp
/-- a block that nobody holds but the one who lets it go is freed; then its kids are let go -/
theorem fell_free {n : Nat} {B C : Nat → Blk} {a : Int} (h : ∀ i, i < n → Form n B (B i)) (h1 : 1 ≤ a) (h2 : a ≤ n) (hr : (B (a - 1).toNat).refs = 1) (h0 : among n B a = 0)
    (hf : Fell n (upd B (a - 1).toNat Blk.zero) C (B (a - 1).toNat).kids) : Fell n B C [a] := by
  obtain ⟨hi, he⟩ := ix h1 h2
  generalize (a - 1).toNat = i at *
  refine ⟨fun j hj => ?_, fun j hj => ?_⟩
  · rcases hf.same j hj with e | ⟨r1, r2, r3, r4, r5⟩
    · exact .inl e
    · by_cases e : j = i
      · subst e
        rw [upd_same] at r2
        have : Blk.zero.refs = 0 := rfl
        omega
      · rw [upd_other _ _ _ _ e] at r2 r3 r4 r5
        exact .inr ⟨r1, r2, r3, r4, r5⟩
  · have := hf.out j hj
    have hu := among_upd (n := n) (B := B) Blk.zero ((j : Int) + 1) hi
    have hz : Blk.zero.kids.count ((j : Int) + 1) = 0 := by simp [Blk.zero]
    rw [hz] at hu
    by_cases e : j = i
    · subst e
      rw [upd_same] at this
      have z : Blk.zero.refs = 0 := rfl
      rw [z] at this
      rw [he] at hu this ⊢
      simp
      omega
    · rw [upd_other _ _ _ _ e] at this
      rw [List.count_cons_of_ne (by omega)]
      simp
      omega
theorem Fell.level {n : Nat} {B C : Nat → Blk} {T : List Int} (h : Fell n B C T) {k : Int} (hk : There n C k) : (C (k - 1).toNat).level = (B (k - 1).toNat).level := by
  obtain ⟨h1, h2, h3⟩ := hk
  rcases h.same _ (ix h1 h2).1 with e | ⟨_, _, e, _⟩
  · rw [e] at h3; exact absurd rfl h3
  · exact e

/-- where nobody outside holds anything nothing is there -/
theorem none_there {n : Nat} {B : Nat → Blk} (h : Right n B) (h0 : ∀ i, i < n → (B i).refs - (among n B ((i : Int) + 1) : Int) ≤ 0) : ∀ i, i < n → (B i).refs = 0 := by
  have step : ∀ d : Nat, d ≤ 4 → ∀ i, i < n → (4 : Int) - d ≤ (B i).level → (B i).refs = 0 := by
    intro d
    induction d with
    | zero =>
      intro _ i hi hl
      have := (h.one i hi).bounds
      omega
    | succ d ih =>
      intro hd i hi hl
      by_cases e : (B i).refs = 0
      · exact e
      · have hb := (h.one i hi).bounds
        have := h0 i hi
        obtain ⟨j, hj, hc⟩ := sumTo_pos (f := fun j => (B j).kids.count ((i : Int) + 1)) (n := n) (show 0 < among n B ((i : Int) + 1) by omega)
        have hm := List.count_pos_iff.1 hc
        have hlv := (h.one j hj).live hm
        rcases (h.one j hj).kids _ hm with h | ⟨_, hl2⟩
        · omega
        · have e2 : ((i : Int) + 1 - 1).toNat = i := by omega
          rw [e2] at hl2
          have := ih (by omega) j hj (by omega)
          omega
  intro i hi
  have := (h.one i hi).bounds
  exact step 4 (Nat.le_refl _) i hi (by omega)

theorem right_held {n : Nat} {B : Nat → Blk} (h : Right n B) {a : Int} (h1 : 1 ≤ a) (h2 : a ≤ n) (hr : (B (a - 1).toNat).refs ≠ (among n B a : Int)) : RightT n B [a] := by
  obtain ⟨hi, he⟩ := ix h1 h2
  refine ⟨h.small, h.one, fun i hi' => ?_, fun k hk => .inr (by simp at hk; omega)⟩
  have := h.held i hi'
  simp at this
  by_cases e : (i : Int) + 1 = a
  · have ei : (a - 1).toNat = i := by omega
    rw [ei] at hr
    rw [e] at this ⊢
    rw [List.count_cons_self]
    simp; omega
  · rw [List.count_cons_of_ne (by omega)]
    simp; omega
end Go.Proofs.Ytaagnojdpedilac
