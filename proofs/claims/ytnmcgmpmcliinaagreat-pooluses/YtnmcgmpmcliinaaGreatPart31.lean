/-
  PoolM, SlN, PoolK in one text. Nothing here is trusted.
-/
import Derived.Test.YtnmcgmpmcliinaaGreatPart15
import Derived.Test.YtnmcgmpmcliinaaGreatPart20
import Derived.Test.YtnmcgmpmcliinaaGreatPart30
import Derived.Lib.SliceRun
import Derived.Laws.Externs
import Derived.Maps.AppendAt
import Derived.Test.YtnmcgmpmcliinaaGreatPart27
set_option linter.unusedVariables false
namespace Go.Proofs.YtnmcgmpmcliinaaGreat
open Go.RowKit
structure SetM where
  v : SetV
  x : SetE
def SetM.cells (m : SetM) : List Value := [.string m.v.name, .slice m.v.fa m.v.fn m.v.fc, .slice m.v.sa m.v.sn m.v.sc]
theorem SetM.cells_len (m : SetM) : m.cells.length = 3 := rfl
theorem SetM.cells_one (m : SetM) : ∀ v ∈ m.cells, v.oneCell' = true := by
  intro v hv
  simp only [SetM.cells, List.mem_cons, List.not_mem_nil, or_false] at hv
  rcases hv with rfl | rfl | rfl <;> rfl
def setCells (l : List SetM) : List Value := l.flatMap SetM.cells
theorem setCells_len (l : List SetM) : (setCells l).length = l.length * 3 := flat_len SetM.cells_len l
theorem setCells_one (l : List SetM) : ∀ v ∈ setCells l, v.oneCell' = true := fun v hv => by
  obtain ⟨m, _, h⟩ := List.mem_flatMap.1 hv
  exact m.cells_one v h
theorem SetsAt.rows {Q : Nat → Prop} {w : World} {a : Option Addr} {n : Nat} {l : List SetE} (h : SetsAt Q w a n l) : ∃ ms : List SetM, ms.map (·.x) = l ∧ (∀ m ∈ ms, SetAt Q w m.v m.x) ∧ (0 < n → ∃ b off, a = some ⟨b, off, none⟩ ∧ b < w.heap.size ∧ ∀ j u, (setCells ms)[j]? = some u → w.cell? ⟨b, off + j, none⟩ = some u) := by
  rcases Nat.eq_zero_or_pos n with h0 | h0
  · subst h0
    have := List.eq_nil_of_length_eq_zero h.1
    subst this
    exact ⟨[], rfl, by simp, fun h => absurd h (by omega)⟩
  · obtain ⟨b, off, rfl, hlt, hq, hc⟩ := h.2 h0
    have hl := h.1
    obtain ⟨f, hf⟩ : ∃ f : Nat → SetV, ∀ i, i < n → SetIn Q w b (off + i * 3) (l.getD i SetE.zero) (f i) :=
      ⟨fun i => if hi : i < n then (hc i hi).choose else ⟨ByteArray.empty, none, 0, 0, none, 0, 0⟩, fun i hi => by simp only [hi, dif_pos]; exact (hc i hi).choose_spec⟩
    refine ⟨(List.range n).map (fun i => ⟨f i, l.getD i SetE.zero⟩), ?_, ?_, fun _ => ⟨b, off, rfl, hlt, ?_⟩⟩
    · apply List.ext_getElem
      · simp [hl]
      · intro i h1 h2
        simp [List.getD, h2]
    · intro m hm
      obtain ⟨i, hi, rfl⟩ := List.mem_map.1 hm
      exact (hf i (List.mem_range.1 hi)).ok
    · intro j u hj
      have hjl : j < n * 3 := by
        have := setCells_len ((List.range n).map (fun i => (⟨f i, l.getD i SetE.zero⟩ : SetM)))
        rw [List.length_map, List.length_range] at this
        rcases Nat.lt_or_ge j (setCells ((List.range n).map (fun i => (⟨f i, l.getD i SetE.zero⟩ : SetM)))).length with h | h
        · omega
        · rw [List.getElem?_eq_none h] at hj; cases hj
      have hi : j / 3 < n := by omega
      have hE := hf (j / 3) hi
      have hg := flat_get SetM.cells_len ((List.range n).map (fun i => (⟨f i, l.getD i SetE.zero⟩ : SetM))) (j / 3) (j % 3) (by simpa using hi) (Nat.mod_lt _ (by omega))
      rw [show j / 3 * 3 + j % 3 = j by omega, List.getElem_map, List.getElem_range] at hg
      unfold setCells at hj
      rw [hg] at hj
      have h3 : j % 3 = 0 ∨ j % 3 = 1 ∨ j % 3 = 2 := by omega
      rcases h3 with h3 | h3 | h3
      · rw [h3] at hj
        rw [show off + j = off + j / 3 * 3 by omega, hE.c0]
        exact hj
      · rw [h3] at hj
        rw [show off + j = off + j / 3 * 3 + 1 by omega, hE.c1]
        exact hj
      · rw [h3] at hj
        rw [show off + j = off + j / 3 * 3 + 2 by omega, hE.c2]
        exact hj
theorem sets_own {w : World} {Q : Nat → Prop} {base : Nat} {e : TypeId} {sa : Option Addr} {sn sc : Nat} {l : List SetM} (hl : ∀ m ∈ l, SetAt Q w m.v m.x) (h : w.ownsRow base e 3 (.slice sa sn sc) sn (setCells l)) : SetsAt (fun b => Q b ∨ (base ≤ b ∧ (Value.slice sa sn sc).ownBlock = some b)) w sa sn (l.map (·.x)) := by
  have hln : l.length = sn := by have := h.1; rw [setCells_len] at this; omega
  refine ⟨by rw [List.length_map]; exact hln, fun hn => ?_⟩
  rcases h.2 with ⟨hv, h0⟩ | ⟨g, cap, cur, hv, hb, hg, hnc, _⟩
  · omega
  · simp only [Value.slice.injEq] at hv
    obtain ⟨rfl, _, rfl⟩ := hv
    refine ⟨g, 0, rfl, (h.lt g rfl).2, .inr ⟨hb, rfl⟩, fun i hi => ?_⟩
    have hil : i < l.length := by omega
    have hx : (l.map (·.x)).getD i SetE.zero = l[i].x := by simp [List.getD, hil]
    rw [hx, Nat.zero_add]
    have hc := fun r (hr : r < 3) => (h.cellAt (i * 3 + r) (by omega)).trans (flat_get SetM.cells_len l i r hil hr)
    have hA := hl l[i] (List.getElem_mem hil)
    exact ⟨l[i].v, hc 0 (by omega), hc 1 (by omega), hc 2 (by omega), hA.weaken (fun b _ q => .inl q)⟩
theorem Only.snapsAt {M : Nat → Prop} {a b : World} (h : Only M a b) {Q : Nat → Prop} {x : Option Addr} {n : Nat} {l : List SnapE} (he : SnapsAt Q a x n l) (hm : ∀ k, Q k → ¬ M k) : SnapsAt Q b x n l := by
  refine ⟨he.1, fun hn => ?_⟩
  obtain ⟨g, off, rfl, hlt, hq, hc⟩ := he.2 hn
  refine ⟨g, off, rfl, Nat.lt_of_lt_of_le hlt h.size, hq, fun i hi => ?_⟩
  obtain ⟨fa, fn, fc, hs⟩ := hc i hi
  exact ⟨fa, fn, fc, (h.cell (p := ⟨g, off + i * 2, none⟩) hlt (hm g hq)).trans hs.c0, (h.cell (p := ⟨g, off + i * 2 + 1, none⟩) hlt (hm g hq)).trans hs.c1, h.ents hs.files hm, hs.small, hs.caps⟩
theorem Only.setAt {M : Nat → Prop} {a b : World} (h : Only M a b) {Q : Nat → Prop} {v : SetV} {x : SetE} (he : SetAt Q a v x) (hm : ∀ k, Q k → ¬ M k) : SetAt Q b v x := ⟨he.name, he.small, h.ents he.files hm, h.snapsAt he.snaps hm, he.caps⟩
structure TenM where
  key : Int
  quota : Int
  sa : Option Addr
  sn : Nat
  sc : Nat
  ms : List SetM
def TenM.e (m : TenM) : TenE := ⟨m.key, m.quota, m.ms.map (·.x)⟩
def TenM.cells (m : TenM) : List Value := [.int .i64 m.key, .int .i64 m.quota, .slice m.sa m.sn m.sc]
theorem TenM.cells_len (m : TenM) : m.cells.length = 3 := rfl
theorem TenM.cells_one (m : TenM) : ∀ v ∈ m.cells, v.oneCell' = true := by
  intro v hv
  simp only [TenM.cells, List.mem_cons, List.not_mem_nil, or_false] at hv
  rcases hv with rfl | rfl | rfl <;> rfl
def tenCells (l : List TenM) : List Value := l.flatMap TenM.cells
theorem tenCells_len (l : List TenM) : (tenCells l).length = l.length * 3 := flat_len TenM.cells_len l
theorem tenCells_one (l : List TenM) : ∀ v ∈ tenCells l, v.oneCell' = true := fun v hv => by
  obtain ⟨m, _, h⟩ := List.mem_flatMap.1 hv
  exact m.cells_one v h
def RowsP (t : Value) (l : List TenM) (j : Nat) (b : Nat) : Prop := t.ownBlock = some b ∨ ∃ i m, i < j ∧ l[i]? = some m ∧ (Value.slice m.sa m.sn m.sc).ownBlock = some b
structure MineP (H : Nat) (X : Nat → Prop) (w : World) (ta : Option Addr) (tn tc : Nat) (l : List TenM) (j : Nat) : Prop where
  row : w.ownsRow H 42 3 (.slice ta tn tc) tn (tenCells l)
  own : ∀ i m, l[i]? = some m → i < j → w.ownsRow H 47 3 (.slice m.sa m.sn m.sc) m.sn (setCells m.ms)
  src : ∀ i m, l[i]? = some m → j ≤ i → SrcAt H w m.sa m.sn (setCells m.ms) ∧ m.ms.length = m.sn ∧ m.sn ≤ m.sc
  lists : ∀ m ∈ l, ∀ s ∈ m.ms, SetAt (fun b => ¬ RowsP (.slice ta tn tc) l j b ∧ ¬ X b) w s.v s.x
  rx : ∀ b, RowsP (.slice ta tn tc) l j b → ¬ X b
  xlt : ∀ b, X b → b < w.heap.size
  apart : ∀ i k m u, l[i]? = some m → l[k]? = some u → i < j → k < j → i ≠ k → ∀ b, (Value.slice m.sa m.sn m.sc).ownBlock = some b → (Value.slice u.sa u.sn u.sc).ownBlock ≠ some b
  top : ∀ i m, l[i]? = some m → i < j → ∀ b, (Value.slice m.sa m.sn m.sc).ownBlock = some b → (Value.slice ta tn tc).ownBlock ≠ some b
  nums : ∀ m ∈ l, (-9223372036854775808 ≤ m.key ∧ m.key ≤ 9223372036854775807) ∧ (-9223372036854775808 ≤ m.quota ∧ m.quota ≤ 9223372036854775807)
  sz : H ≤ w.heap.size
theorem MineP.len {H : Nat} {X : Nat → Prop} {w : World} {ta : Option Addr} {tn tc : Nat} {l : List TenM} {j : Nat} (h : MineP H X w ta tn tc l j) : l.length = tn := by have := h.row.1; rw [tenCells_len] at this; omega
theorem MineP.ge {H : Nat} {X : Nat → Prop} {w : World} {ta : Option Addr} {tn tc : Nat} {l : List TenM} {j b : Nat} (h : MineP H X w ta tn tc l j) (hb : RowsP (.slice ta tn tc) l j b) : H ≤ b ∧ b < w.heap.size := by
  rcases hb with hb | ⟨i, m, hi, hm, hb⟩
  · exact h.row.lt b hb
  · exact (h.own i m hm hi).lt b hb
theorem SrcAt.only {H : Nat} {M : Nat → Prop} {w w' : World} {a : Option Addr} {n : Nat} {cs : List Value} (h : SrcAt H w a n cs) (on : Only M w w') (hM : ∀ b, M b → H ≤ b) (hH : H ≤ w.heap.size) : SrcAt H w' a n cs := fun hp => by
  obtain ⟨b, off, e, hlt, hc⟩ := h hp
  exact ⟨b, off, e, hlt, fun j u hj => (on.cell (p := ⟨b, off + j, none⟩) (show b < w.heap.size by omega) (fun m => by have := hM b m; omega)).trans (hc j u hj)⟩
theorem MineP.only {H : Nat} {X M : Nat → Prop} {w w' : World} {ta : Option Addr} {tn tc : Nat} {l : List TenM} {j : Nat} (h : MineP H X w ta tn tc l j) (on : Only M w w') (hM : ∀ b, M b → w.heap.size ≤ b ∨ (X b ∧ (j < l.length → H ≤ b))) : MineP H X w' ta tn tc l j :=
  have hR : ∀ b, RowsP (.slice ta tn tc) l j b → ¬ M b := fun b hb k => by
    rcases hM b k with k | k
    · have := (h.ge hb).2; omega
    · exact h.rx b hb k.1
  ⟨on.row h.row (fun b hb => hR b (.inl hb)), fun i m hm hi => on.row (h.own i m hm hi) (fun b hb => hR b (.inr ⟨i, m, hi, hm, hb⟩)), fun i m hm hi => ⟨(h.src i m hm hi).1.only on (fun b k => by
      have := (List.getElem?_eq_some_iff.1 hm).1
      rcases hM b k with k | k
      · have := h.sz; omega
      · exact k.2 (by omega)) h.sz, (h.src i m hm hi).2⟩,
    fun m hm s hs => (on.setAt ((h.lists m hm s hs).weaken (R := fun b => (¬ RowsP (.slice ta tn tc) l j b ∧ ¬ X b) ∧ b < w.heap.size) (fun b hb q => ⟨q, hb⟩)) (fun b q k => by
      rcases hM b k with k | k
      · have := q.2; omega
      · exact q.1.2 k.1)).weaken (fun b _ q => q.1), h.rx, fun b hb => Nat.lt_of_lt_of_le (h.xlt b hb) on.size, h.apart, h.top, h.nums, Nat.le_trans h.sz on.size⟩
theorem MineP.below {H : Nat} {X : Nat → Prop} {w w' : World} {ta : Option Addr} {tn tc : Nat} {l : List TenM} {j : Nat} (h : MineP H X w ta tn tc l j) (hb : Below w.heap.size w w') : MineP H X w' ta tn tc l j := h.only (M := fun _ => False) (Only.of_below hb) (fun _ m => m.elim)
theorem MineP.clear {H : Nat} {X Y : Nat → Prop} {w w' : World} {ta : Option Addr} {tn tc : Nat} {l : List TenM} {j : Nat} (h : MineP H X w ta tn tc l j) (hb : Below w.heap.size w w') (hY : ∀ b, Y b → X b ∨ (w.heap.size ≤ b ∧ b < w'.heap.size)) : MineP H Y w' ta tn tc l j := by
  have h' := h.below hb
  refine ⟨h'.row, h'.own, h'.src, fun m hm s hs => ?_, fun b hb hy => ?_, fun b hy => ?_, h.apart, h.top, h.nums, h'.sz⟩
  · exact (((h.lists m hm s hs).weaken (R := fun b => (¬ RowsP (.slice ta tn tc) l j b ∧ ¬ X b) ∧ b < w.heap.size) (fun b hb q => ⟨q, hb⟩)).below hb).weaken (fun b _ q => ⟨q.1.1, fun y => by
      rcases hY b y with y | y
      · exact q.1.2 y
      · have := q.2; omega⟩)
  · rcases hY b hy with hy | hy
    · exact h.rx b hb hy
    · have := (h.ge hb).2; omega
  · rcases hY b hy with hy | hy
    · exact Nat.lt_of_lt_of_le (h.xlt b hy) hb.size
    · exact hy.2
theorem MineP.step {H : Nat} {X : Nat → Prop} {w w' : World} {ta : Option Addr} {tn tc : Nat} {l : List TenM} {j : Nat} (h : MineP H X w ta tn tc l j) {i j' : Nat} {m m' : TenM} {M : Nat → Prop} (hm : l[i]? = some m) (hj : (i < j ∧ j' = j) ∨ (i = j ∧ j' = j + 1)) (on : Only M w w')
    (hM : ∀ b, M b → (Value.slice ta tn tc).ownBlock = some b ∨ (i < j ∧ (Value.slice m.sa m.sn m.sc).ownBlock = some b))
    (hrow : w'.ownsRow H 42 3 (.slice ta tn tc) tn (tenCells (l.set i m')))
    (hset : w'.ownsRow H 47 3 (.slice m'.sa m'.sn m'.sc) m'.sn (setCells m'.ms))
    (hblk : ∀ b, (Value.slice m'.sa m'.sn m'.sc).ownBlock = some b → (i < j ∧ (Value.slice m.sa m.sn m.sc).ownBlock = some b) ∨ w.heap.size ≤ b)
    (hnew : ∀ s ∈ m'.ms, s ∈ m.ms ∨ SetAt (fun b => ¬ RowsP (.slice ta tn tc) l j b ∧ ¬ X b) w s.v s.x ∨ SetAt (fun b => w.heap.size ≤ b ∧ (Value.slice m'.sa m'.sn m'.sc).ownBlock ≠ some b) w' s.v s.x)
    (hkq : m'.key = m.key ∧ m'.quota = m.quota) : MineP H X w' ta tn tc (l.set i m') j' := by
  obtain ⟨hil, hmi⟩ := List.getElem?_eq_some_iff.1 hm
  have hMR : ∀ b, M b → RowsP (.slice ta tn tc) l j b := fun b k => by
    rcases hM b k with k | ⟨h1, k⟩
    · exact .inl k
    · exact .inr ⟨i, m, h1, hm, k⟩
  have hR : ∀ b, RowsP (.slice ta tn tc) (l.set i m') j' b → RowsP (.slice ta tn tc) l j b ∨ (w.heap.size ≤ b ∧ (Value.slice m'.sa m'.sn m'.sc).ownBlock = some b) := fun b hb => by
    rcases hb with hb | ⟨k, u, hk, hu, hb⟩
    · exact .inl (.inl hb)
    · by_cases e : k = i
      · subst e
        rw [List.getElem?_set_self hil] at hu
        cases hu
        rcases hblk b hb with ⟨h1, h2⟩ | h1
        · exact .inl (.inr ⟨k, m, h1, hm, h2⟩)
        · exact .inr ⟨h1, hb⟩
      · rw [List.getElem?_set_ne (fun f => e f.symm)] at hu
        exact .inl (.inr ⟨k, u, by omega, hu, hb⟩)
  have old : ∀ (v : SetV) (x : SetE), SetAt (fun b => ¬ RowsP (.slice ta tn tc) l j b ∧ ¬ X b) w v x → SetAt (fun b => ¬ RowsP (.slice ta tn tc) (l.set i m') j' b ∧ ¬ X b) w' v x := fun v x hs =>
    (on.setAt (hs.weaken (R := fun b => (¬ RowsP (.slice ta tn tc) l j b ∧ ¬ X b) ∧ b < w.heap.size) (fun b hb q => ⟨q, hb⟩)) (fun b q k => q.1.1 (hMR b k))).weaken (fun b _ q => ⟨fun f => by
      rcases hR b f with f | f
      · exact q.1.1 f
      · have := q.2; have := f.1; omega, q.1.2⟩)
  refine ⟨hrow, fun k u hu hk => ?_, fun k u hu hk => ?_, fun u hu s hs => ?_, fun b hb hx => ?_, fun b hb => Nat.lt_of_lt_of_le (h.xlt b hb) on.size, fun a b u v hu hv ha hb hab c hc => ?_, fun k u hu hk b hb => ?_, fun u hu => ?_, Nat.le_trans h.sz on.size⟩
  · by_cases e : k = i
    · subst e
      rw [List.getElem?_set_self hil] at hu
      cases hu
      exact hset
    · rw [List.getElem?_set_ne (fun f => e f.symm)] at hu
      have hkj : k < j := by omega
      refine on.row (h.own k u hu hkj) (fun b hb f => ?_)
      rcases hM b f with f | ⟨h1, f⟩
      · exact h.top k u hu hkj b hb f
      · exact h.apart k i u m hu hm hkj h1 e b hb f
  · have e : k ≠ i := by omega
    rw [List.getElem?_set_ne (fun f => e f.symm)] at hu
    have := h.src k u hu (by omega)
    exact ⟨this.1.only on (fun b f => (h.ge (hMR b f)).1) h.sz, this.2⟩
  · obtain ⟨k, hk, rfl⟩ := List.mem_iff_getElem.1 hu
    rw [List.getElem_set] at hs
    split at hs
    · rcases hnew s hs with h1 | h1 | h1
      · exact old _ _ (h.lists m (List.mem_of_getElem? hm) s h1)
      · exact old _ _ h1
      · exact h1.weaken (fun b _ q => ⟨fun f => by
          rcases hR b f with f | f
          · have := (h.ge f).2; have := q.1; omega
          · exact q.2 f.2, fun f => by have := h.xlt b f; have := q.1; omega⟩)
    · exact old _ _ (h.lists _ (List.getElem_mem (by simpa using hk)) s hs)
  · rcases hR b hb with f | f
    · exact h.rx b f hx
    · have := h.xlt b hx; have := f.1; omega
  · by_cases e : a = i
    · subst e
      rw [List.getElem?_set_self hil] at hu
      cases hu
      rw [List.getElem?_set_ne hab] at hv
      intro f
      rcases hblk c hc with ⟨h1, h2⟩ | h1
      · exact h.apart a b m v hm hv h1 (by omega) hab c h2 f
      · have := ((h.own b v hv (by omega)).lt c f).2; omega
    · rw [List.getElem?_set_ne (fun f => e f.symm)] at hu
      by_cases e2 : b = i
      · subst e2
        rw [List.getElem?_set_self hil] at hv
        cases hv
        intro f
        rcases hblk c f with ⟨h1, h2⟩ | h1
        · exact h.apart a b u m hu hm (by omega) h1 hab c hc h2
        · have := ((h.own a u hu (by omega)).lt c hc).2; omega
      · rw [List.getElem?_set_ne (fun f => e2 f.symm)] at hv
        exact h.apart a b u v hu hv (by omega) (by omega) hab c hc
  · by_cases e : k = i
    · subst e
      rw [List.getElem?_set_self hil] at hu
      cases hu
      intro f
      rcases hblk b hb with ⟨h1, h2⟩ | h1
      · exact h.top k m hm h1 b h2 f
      · have := (h.row.lt b f).2; omega
    · rw [List.getElem?_set_ne (fun f => e f.symm)] at hu
      exact h.top k u hu (by omega) b hb
  · rcases List.mem_or_eq_of_mem_set hu with hu | rfl
    · exact h.nums u hu
    · rw [hkq.1, hkq.2]
      exact h.nums m (List.mem_of_getElem? hm)
theorem MineP.tens {H : Nat} {X : Nat → Prop} {w : World} {ta : Option Addr} {tn tc : Nat} {l : List TenM} (h : MineP H X w ta tn tc l tn) : TensAt (fun _ => True) w ta tn (l.map TenM.e) := by
  have hln := h.len
  refine ⟨by rw [List.length_map]; exact hln, fun hn => ?_⟩
  rcases h.row.2 with ⟨hv, h0⟩ | ⟨g, cap, cur, hv, hb, hg, hnc, _⟩
  · omega
  · simp only [Value.slice.injEq] at hv
    obtain ⟨rfl, _, rfl⟩ := hv
    refine ⟨g, 0, rfl, (h.row.lt g rfl).2, trivial, fun i hi => ?_⟩
    have hil : i < l.length := by omega
    have hx : (l.map TenM.e).getD i TenE.zero = l[i].e := by simp [List.getD, hil]
    rw [hx, Nat.zero_add]
    have hc := fun r (hr : r < 3) => (h.row.cellAt (i * 3 + r) (by omega)).trans (flat_get TenM.cells_len l i r hil hr)
    have hA := h.own i l[i] (List.getElem?_eq_getElem hil) hi
    have hN := h.nums l[i] (List.getElem_mem hil)
    exact ⟨l[i].sa, l[i].sn, l[i].sc, hc 0 (by omega), hc 1 (by omega), hc 2 (by omega), (sets_own (fun m hm => h.lists _ (List.getElem_mem hil) m hm) hA).weaken (fun b _ _ => trivial), hN.1, hN.2, row_caps hA⟩
end Go.Proofs.YtnmcgmpmcliinaaGreat

namespace Go.Proofs.YtnmcgmpmcliinaaGreat
open Go.RowKit
theorem Tryz.infoN : (Tryz.prog.info? 42).map (fun i => (i.zero, i.size, i.bytes)) = some (some (.agg #[.int .i64 0, .int .i64 0, .slice none 0 0]), 3, 40) := by kernel_rfl
set_option maxHeartbeats 400000 in
theorem cloneN_any (a : Option Addr) (n c : Nat) (cs : List Value) (w : World) (hn : n ≤ 1000) (hl : cs.length = n * 3) (h1 : ∀ v ∈ cs, v.oneCell' = true)
    (hc : 0 < n → ∃ b off, a = some ⟨b, off, none⟩ ∧ b < w.heap.size ∧ ∀ j u, cs[j]? = some u → w.cell? ⟨b, off + j, none⟩ = some u) :
    Calls Tryz.prog 56 #[.slice a n c] w fun e w' =>
      Below w.heap.size w w' ∧ ∃ a' c', e = .returned (.slice a' n c') ∧ n ≤ c' ∧ w'.ownsRow w.heap.size 42 3 (.slice a' n c') n cs := by
  obtain ⟨i0, hi, hz0, hz1, hz2⟩ := info_parts Tryz.infoN
  have qn : ∀ (w : World) (a : Option Addr) (n c n' c' : Nat), (binOp .eql 25 (.slice a n c) (.slice none n' c')).run Tryz.prog w = .ok (.bool a.isNone) w := fun w a n c n' c' => Lib.run_eql_slice_nil w _ _ a n c n' c' Tryz.underlying25
  cases a with
  | none =>
    have hn0 : n = 0 := by
      rcases Nat.eq_zero_or_pos n with h0 | h0
      · exact h0
      · obtain ⟨_, _, h1, _⟩ := hc h0
        cases h1
    subst hn0
    replace hl := hid hl
    replace hc := hid hc
    replace h1 := hid h1
    go_enter Tryz.func56, Tryz.ntmps56
    go_wp2_with fail
    go_ret
    have e0 : cs = [] := List.eq_nil_of_length_eq_zero (by have := hl.out; omega)
    exact ⟨Below.refl _ _, _, _, rfl, Nat.le_refl _, by rw [e0]; exact World.ownsRow_nil _ _ _ _⟩
  | some x =>
    have hcn : ∀ j u, cs[j]? = some u → (w.alloc (.cells #[] 42)).cell? (x.add j) = some u := by
      intro j u hj
      have hjl : j < cs.length := by
        rcases Nat.lt_or_ge j cs.length with h | h
        · exact h
        · simp [List.getElem?_eq_none h] at hj
      obtain ⟨b, off, he, hb, hcc⟩ := hc (by omega)
      obtain rfl : x = ⟨b, off, none⟩ := by simpa using he
      have ea : (⟨b, off, none⟩ : Addr).add j = ⟨b, off + j, none⟩ := by unfold Addr.add; split <;> simp_all
      rw [ea, World.cell?_alloc_past _ _ _ hb]
      exact hcc j u hj
    have A := hid hcn
    have H1 := hid h1
    have Hl := hid hl
    clear hcn hc h1 hl
    go_enter Tryz.func56, Tryz.ntmps56
    go_wp2_with (at_builtin; refine wpList_append_own _ rfl _ _ 25 rfl w.heap.size 42 i0 _ 3 40 Tryz.underlying25 hi hz0 hz1 hz2 rfl (by decide) _ _ _ rfl (World.ownsRow_made w #[] 0 (Nat.le_refl _) (Nat.zero_le _) (by simp)) x n c cs rfl ?qc1 ?qc2 ?qc3 ?qc4 ?qc5 ?qc6 ?_)
    case qc1 => exact Hl.out
    case qc2 => exact A.out
    case qc3 => exact H1.out
    case qc4 => unfold maxLen; omega
    case qc5 => omega
    case qc6 => simp
    intro v' w1 hown hgrow hnil
    have hown' : w1.ownsRow w.heap.size 42 3 v' n cs := by simpa using hown
    have hbel := ((Below.refl _ w).alloc (Nat.le_refl _) _).grown hgrow (by simp) (by intro k hk; simp [Value.ownBlock] at hk; omega)
    clear hown hgrow A hnil
    obtain ⟨a', c', rfl, hnc⟩ : ∃ a' c', v' = .slice a' n c' ∧ n ≤ c' := by
      rcases hown'.2 with ⟨hv, h0⟩ | ⟨g, cap, cur, hv, _, _, hnc, _⟩
      · exact ⟨none, 0, by rw [hv, h0], by omega⟩
      · exact ⟨_, _, hv, hnc⟩
    replace hown' := hid hown'
    go_wp2_with fail
    go_ret
    exact ⟨hbel, a', c', rfl, hnc, hown'.out⟩
end Go.Proofs.YtnmcgmpmcliinaaGreat

namespace Go.Proofs.YtnmcgmpmcliinaaGreat
open Go.RowKit
theorem Only.of_belowH {H : Nat} {a b : World} (h : Below H a b) : Only (fun k => H ≤ k) a b := ⟨h.os, h.tape, h.output, h.size, fun k hk hm => h.block k (by omega)⟩
theorem SetAt.belowH {H : Nat} {a b : World} {v : SetV} {x : SetE} (h : SetAt (fun k => k < H) a v x) (hb : Below H a b) : SetAt (fun k => k < H) b v x := (Only.of_belowH hb).setAt h (fun k hk m => by omega)
theorem TensAt.rows {Q : Nat → Prop} {w : World} {a : Option Addr} {n : Nat} {l : List TenE} (h : TensAt Q w a n l) : ∃ L : List TenM, L.map TenM.e = l ∧ (∀ m ∈ L, (∀ s ∈ m.ms, SetAt Q w s.v s.x) ∧ SrcAt w.heap.size w m.sa m.sn (setCells m.ms) ∧ m.ms.length = m.sn ∧ m.sn ≤ m.sc ∧ (-9223372036854775808 ≤ m.key ∧ m.key ≤ 9223372036854775807) ∧ (-9223372036854775808 ≤ m.quota ∧ m.quota ≤ 9223372036854775807)) ∧ SrcAt w.heap.size w a n (tenCells L) := by
  rcases Nat.eq_zero_or_pos n with h0 | h0
  · subst h0
    have := List.eq_nil_of_length_eq_zero h.1
    subst this
    exact ⟨[], rfl, by simp, fun h => absurd h (by omega)⟩
  · obtain ⟨b, off, rfl, hlt, hq, hc⟩ := h.2 h0
    have hl := h.1
    have key : ∀ i, i < n → ∃ m : TenM, m.e = l.getD i TenE.zero ∧ ((∀ s ∈ m.ms, SetAt Q w s.v s.x) ∧ SrcAt w.heap.size w m.sa m.sn (setCells m.ms) ∧ m.ms.length = m.sn ∧ m.sn ≤ m.sc ∧ (-9223372036854775808 ≤ m.key ∧ m.key ≤ 9223372036854775807) ∧ (-9223372036854775808 ≤ m.quota ∧ m.quota ≤ 9223372036854775807)) ∧ ∀ r u, m.cells[r]? = some u → w.cell? ⟨b, off + i * 3 + r, none⟩ = some u := by
      intro i hi
      obtain ⟨sa, sn, sc, hT⟩ := hc i hi
      obtain ⟨ms, h1, h2, h3⟩ := hT.ok.sets.rows
      generalize l.getD i TenE.zero = t at *
      obtain ⟨tk, tq, ts⟩ := t
      simp only at h1
      subst h1
      refine ⟨⟨tk, tq, sa, sn, sc, ms⟩, rfl, ⟨h2, h3, ?_, hT.ok.caps, hT.ok.kb, hT.ok.qb⟩, fun r u hr => ?_⟩
      · have := hT.ok.sets.1
        simpa using this
      · have h4 : r = 0 ∨ r = 1 ∨ r = 2 ∨ 3 ≤ r := by omega
        rcases h4 with rfl | rfl | rfl | h4
        · exact hT.c0.trans hr
        · exact hT.c1.trans hr
        · exact hT.c2.trans hr
        · rw [List.getElem?_eq_none (by rw [TenM.cells_len]; exact h4)] at hr; cases hr
    obtain ⟨f, hf⟩ : ∃ f : Nat → TenM, ∀ i, i < n → (f i).e = l.getD i TenE.zero ∧ ((∀ s ∈ (f i).ms, SetAt Q w s.v s.x) ∧ SrcAt w.heap.size w (f i).sa (f i).sn (setCells (f i).ms) ∧ (f i).ms.length = (f i).sn ∧ (f i).sn ≤ (f i).sc ∧ (-9223372036854775808 ≤ (f i).key ∧ (f i).key ≤ 9223372036854775807) ∧ (-9223372036854775808 ≤ (f i).quota ∧ (f i).quota ≤ 9223372036854775807)) ∧ ∀ r u, (f i).cells[r]? = some u → w.cell? ⟨b, off + i * 3 + r, none⟩ = some u :=
      ⟨fun i => if hi : i < n then (key i hi).choose else ⟨0, 0, none, 0, 0, []⟩, fun i hi => by simp only [hi, dif_pos]; exact (key i hi).choose_spec⟩
    refine ⟨(List.range n).map f, ?_, ?_, fun _ => ⟨b, off, rfl, hlt, ?_⟩⟩
    · apply List.ext_getElem
      · simp [hl]
      · intro i h1 h2
        have hi : i < n := by omega
        rw [List.getElem_map, List.getElem_map, List.getElem_range, (hf i hi).1]
        simp [List.getD, h2]
    · intro m hm
      obtain ⟨i, hi, rfl⟩ := List.mem_map.1 hm
      exact (hf i (List.mem_range.1 hi)).2.1
    · intro j u hj
      have hjl : j < n * 3 := by
        have := tenCells_len ((List.range n).map f)
        rw [List.length_map, List.length_range] at this
        rcases Nat.lt_or_ge j (tenCells ((List.range n).map f)).length with h | h
        · omega
        · rw [List.getElem?_eq_none h] at hj; cases hj
      have hi : j / 3 < n := by omega
      have hg := flat_get TenM.cells_len ((List.range n).map f) (j / 3) (j % 3) (by simpa using hi) (Nat.mod_lt _ (by omega))
      rw [show j / 3 * 3 + j % 3 = j by omega, List.getElem_map, List.getElem_range] at hg
      unfold tenCells at hj
      rw [hg] at hj
      have := (hf (j / 3) hi).2.2 _ _ hj
      rw [show off + j / 3 * 3 + j % 3 = off + j by omega] at this
      exact this
structure CpAt (K H : Nat) (w wr : World) (a : Option Addr) (n c : Nat) (ta : Option Addr) (tn tc : Nat) (ta' : Option Addr) (tc' : Nat) (l : List TenE) (L : List TenM) (j : Nat) : Prop where
  box : CellsAt wr H #[.slice a n c, .slice ta tn tc] 27
  res : CellsAt wr (H + 1) #[.slice none 0 0, .slice none 0 0] 27
  mine : MineP (H + 2) (fun b => K ≤ b ∧ b ≤ H + 1) wr ta' tn tc' L j
  eq : L.map TenM.e = l
  hK : K ≤ H
  todo : ∀ i m, L[i]? = some m → j ≤ i → SrcAt H w m.sa m.sn (setCells m.ms) ∧ ∀ s ∈ m.ms, SetAt (fun b => b < H) w s.v s.x
  bel : Below H w wr
theorem map_e_set {L : List TenM} {j : Nat} {m m' : TenM} (hm : L[j]? = some m) (he : m'.e = m.e) : (L.set j m').map TenM.e = L.map TenM.e := by
  rw [List.map_set, he]
  apply List.ext_getElem?
  intro i
  rw [List.getElem?_set]
  split
  · rename_i e
    subst e
    obtain ⟨hj, hmj⟩ := List.getElem?_eq_some_iff.1 hm
    simp [hj, hmj]
  · rfl
theorem CpAt.below {K H : Nat} {w wr w' : World} {a : Option Addr} {n c : Nat} {ta : Option Addr} {tn tc : Nat} {ta' : Option Addr} {tc' : Nat} {l : List TenE} {L : List TenM} {j : Nat} (h : CpAt K H w wr a n c ta tn tc ta' tc' l L j) (b : Below wr.heap.size wr w') : CpAt K H w w' a n c ta tn tc ta' tc' l L j :=
  ⟨h.box.below b, h.res.below b, h.mine.below b, h.eq, h.hK, h.todo, h.bel.trans (b.mono (by have := h.mine.sz; omega))⟩
theorem CpAt.row {K H : Nat} {w wr w6 : World} {a : Option Addr} {n c : Nat} {ta : Option Addr} {tn tc tb tc' : Nat} {l : List TenE} {L : List TenM} {j : Nat} {m : TenM} {a' : Option Addr} {c' B2 : Nat} (h : CpAt K H w wr a n c ta tn tc (some ⟨tb, 0, none⟩) tc' l L j) (hm : L[j]? = some m) (b6 : Below wr.heap.size wr w6) (hB : wr.heap.size ≤ B2) (ho : w6.ownsRow B2 47 3 (.slice a' m.sn c') m.sn (setCells m.ms)) :
    CpAt K H w (w6.setCell ⟨tb, j * 3 + 2, none⟩ (.slice a' m.sn c')) a n c ta tn tc (some ⟨tb, 0, none⟩) tc' l (L.set j { m with sa := a', sc := c' }) (j + 1) := by
  obtain ⟨hj, hmj⟩ := List.getElem?_eq_some_iff.1 hm
  have htb := h.mine.row.lt tb rfl
  have kk : Kept tb w6 (w6.setCell ⟨tb, j * 3 + 2, none⟩ (.slice a' m.sn c')) := Kept.setCell (g := tb) (Kept.refl _ _) (p := ⟨tb, j * 3 + 2, none⟩) rfl _
  have on : Only (fun b => b = tb) wr (w6.setCell ⟨tb, j * 3 + 2, none⟩ (.slice a' m.sn c')) := (Only.of_below b6).trans (Only.of_kept kk rfl)
  have hsz := h.mine.sz
  refine ⟨on.cells h.box (by omega), on.cells h.res (by omega), ?_, ?_, h.hK, fun i u hu hi => ?_, h.bel.trans ((b6.mono (show H ≤ wr.heap.size by omega)).trans (kk.below (by omega)))⟩
  · refine h.mine.step hm (.inr ⟨rfl, rfl⟩) on (fun b hb => ?_) ?_ ?_ (fun b hb => .inr ?_) (fun s hs => .inl hs) ⟨rfl, rfl⟩
    · subst hb
      exact .inl rfl
    · have h1 := ((row_below h.mine.row b6).stored (j * 3 + 2) (.slice a' m.sn c')).1
      have h2 : (tenCells L).set (j * 3 + 2) (.slice a' m.sn c') = tenCells (L.set j { m with sa := a', sc := c' }) := flat_set TenM.cells_len L j 2 { m with sa := a', sc := c' } _ hj (by omega) (by rw [hmj]; rfl)
      rw [← h2]
      exact h1
    · exact ownsRow_base (by omega) ((Only.of_kept (M := fun b => b = tb) kk rfl).row ho (fun b hb e => by subst e; have := (ho.lt _ hb).1; omega))
    · have := (ho.lt b hb).1; omega
  · exact (map_e_set (m' := { m with sa := a', sc := c' }) hm rfl).trans h.eq
  · rw [List.getElem?_set_ne (by omega)] at hu
    exact h.todo i u hu (by omega)
abbrev putK (w : World) (rb o : Nat) (u : SetV) : World := ((w.setCell ⟨rb, o, none⟩ (.string u.name)).setCell ⟨rb, o + 1, none⟩ (.slice u.fa u.fn u.fc)).setCell ⟨rb, o + 2, none⟩ (.slice u.sa u.sn u.sc)
theorem kept_putK (w : World) (rb o : Nat) (u : SetV) : Kept rb w (putK w rb o u) := Kept.setCell (g := rb) (Kept.setCell (g := rb) (Kept.setCell (g := rb) (Kept.refl _ _) (p := ⟨rb, o, none⟩) rfl _) (p := ⟨rb, o + 1, none⟩) rfl _) (p := ⟨rb, o + 2, none⟩) rfl _
theorem row_putK {w : World} {base : Nat} {e : TypeId} {rb n cap k : Nat} {ms : List SetM} (h : w.ownsRow base e 3 (.slice (some ⟨rb, 0, none⟩) n cap) n (setCells ms)) (hk : k < ms.length) (u : SetV) (x : SetE) : (putK w rb (k * 3) u).ownsRow base e 3 (.slice (some ⟨rb, 0, none⟩) n cap) n (setCells (ms.set k ⟨u, x⟩)) := by
  have h1 := (h.stored (k * 3) (.string u.name)).1
  have h2 := (h1.stored (k * 3 + 1) (.slice u.fa u.fn u.fc)).1
  have h3 := (h2.stored (k * 3 + 2) (.slice u.sa u.sn u.sc)).1
  have e : (((setCells ms).set (k * 3) (.string u.name)).set (k * 3 + 1) (.slice u.fa u.fn u.fc)).set (k * 3 + 2) (.slice u.sa u.sn u.sc) = setCells (ms.set k ⟨u, x⟩) := by
    have e0 : (setCells ms).set (k * 3 + 0) (.string u.name) = setCells (ms.set k ⟨{ ms[k].v with name := u.name }, x⟩) := flat_set SetM.cells_len ms k 0 _ _ hk (by omega) rfl
    rw [Nat.add_zero] at e0
    rw [e0]
    have e1 : (setCells (ms.set k ⟨{ ms[k].v with name := u.name }, x⟩)).set (k * 3 + 1) (.slice u.fa u.fn u.fc) = setCells ((ms.set k ⟨{ ms[k].v with name := u.name }, x⟩).set k ⟨{ u with sa := ms[k].v.sa, sn := ms[k].v.sn, sc := ms[k].v.sc }, x⟩) := flat_set SetM.cells_len _ k 1 _ _ (by simpa using hk) (by omega) (by rw [List.getElem_set_self]; rfl)
    rw [e1, List.set_set]
    have e2 : (setCells (ms.set k ⟨{ u with sa := ms[k].v.sa, sn := ms[k].v.sn, sc := ms[k].v.sc }, x⟩)).set (k * 3 + 2) (.slice u.sa u.sn u.sc) = setCells ((ms.set k ⟨{ u with sa := ms[k].v.sa, sn := ms[k].v.sn, sc := ms[k].v.sc }, x⟩).set k ⟨u, x⟩) := flat_set SetM.cells_len _ k 2 _ _ (by simpa using hk) (by omega) (by rw [List.getElem_set_self]; rfl)
    rw [e2, List.set_set]
  rw [← e]
  exact h3
theorem tenCells_same {L : List TenM} {j : Nat} {m m' : TenM} (hm : L[j]? = some m) (he : m'.cells = m.cells) : tenCells (L.set j m') = tenCells L := by
  obtain ⟨hj, hmj⟩ := List.getElem?_eq_some_iff.1 hm
  unfold tenCells
  rw [List.set_eq_take_append_cons_drop, if_pos hj, List.flatMap_append, List.flatMap_cons, he, ← List.flatMap_cons, ← List.flatMap_append]
  congr 1
  rw [← hmj, List.getElem_cons_drop, List.take_append_drop]
theorem MineP.lay {H : Nat} {X : Nat → Prop} {w w7 : World} {ta : Option Addr} {tn tc : Nat} {l : List TenM} {j i k rb : Nat} {m : TenM} {u : SetV} {x : SetE} (h : MineP H X w ta tn tc l j) (hm : l[i]? = some m) (hij : i < j) (ha : m.sa = some ⟨rb, 0, none⟩) (hk : k < m.ms.length) (b7 : Below w.heap.size w w7) (hX : SetAt (fun b => w.heap.size ≤ b) w7 u x) :
    MineP H X (putK w7 rb (k * 3) u) ta tn tc (l.set i { m with ms := m.ms.set k ⟨u, x⟩ }) j := by
  have kk := kept_putK w7 rb (k * 3) u
  have hown := h.own i m hm hij
  rw [ha] at hown
  have hrb := hown.lt rb rfl
  have on : Only (fun b => b = rb) w (putK w7 rb (k * 3) u) := (Only.of_below b7).trans (Only.of_kept kk rfl)
  refine h.step hm (.inl ⟨hij, rfl⟩) on (fun b hb => .inr ⟨hij, ?_⟩) ?_ ?_ (fun b hb => .inl ⟨hij, hb⟩) (fun s hs => ?_) ⟨rfl, rfl⟩
  · subst hb
    rw [ha]; rfl
  · rw [tenCells_same (m' := { m with ms := m.ms.set k ⟨u, x⟩ }) hm rfl]
    exact on.row h.row (fun b hb e => by subst e; exact h.top i m hm hij b (by rw [ha]; rfl) hb)
  · simp only [ha]
    exact row_putK (row_below hown b7) hk u x
  · rcases List.mem_or_eq_of_mem_set hs with hs | rfl
    · exact .inl hs
    · refine .inr (.inr (((Only.of_kept (M := fun b => b = rb) kk rfl).setAt hX (fun b q e => by subst e; omega)).weaken (fun b _ q => ⟨q, fun f => ?_⟩)))
      simp only [ha] at f
      have : rb = b := by simpa [Value.ownBlock] using f
      omega
theorem CpAt.lay {K H : Nat} {w wr w7 : World} {a : Option Addr} {n c : Nat} {ta : Option Addr} {tn tc : Nat} {ta' : Option Addr} {tc' : Nat} {l : List TenE} {L : List TenM} {j k rb : Nat} {m : TenM} {s : SetM} {u : SetV} (h : CpAt K H w wr a n c ta tn tc ta' tc' l L (j + 1)) (hm : L[j]? = some m) (ha : m.sa = some ⟨rb, 0, none⟩) (hs : m.ms[k]? = some s) (b7 : Below wr.heap.size wr w7) (hX : SetAt (fun b => wr.heap.size ≤ b) w7 u s.x) :
    CpAt K H w (putK w7 rb (k * 3) u) a n c ta tn tc ta' tc' l (L.set j { m with ms := m.ms.set k ⟨u, s.x⟩ }) (j + 1) := by
  have kk := kept_putK w7 rb (k * 3) u
  obtain ⟨hk, hsk⟩ := List.getElem?_eq_some_iff.1 hs
  have hown := h.mine.own j m hm (by omega)
  rw [ha] at hown
  have hrb := hown.lt rb rfl
  have hsz := h.mine.sz
  have on : Only (fun b => b = rb) wr (putK w7 rb (k * 3) u) := (Only.of_below b7).trans (Only.of_kept kk rfl)
  refine ⟨on.cells h.box (by omega), on.cells h.res (by omega), h.mine.lay hm (by omega) ha hk b7 hX, ?_, h.hK, fun i v hv hi => ?_, h.bel.trans ((b7.mono (show H ≤ wr.heap.size by omega)).trans (kk.below (by omega)))⟩
  · rw [map_e_set hm, h.eq]
    simp only [TenM.e, TenE.mk.injEq, true_and]
    rw [List.map_set]
    apply List.ext_getElem?
    intro i
    rw [List.getElem?_set]
    split
    · rename_i e
      subst e
      simp [hk, hsk]
    · rfl
  · rw [List.getElem?_set_ne (by omega)] at hv
    exact h.todo i v hv hi
end Go.Proofs.YtnmcgmpmcliinaaGreat
