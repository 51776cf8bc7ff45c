/-
  FileK in one text. Nothing here is trusted.
-/
import Derived.Test.YtnmcgmpmcliinaaGreatPart26
import Derived.Lib.SmallJoins
import Derived.Lib.SlBytesConst
set_option linter.unusedVariables false
namespace Go.Proofs.YtnmcgmpmcliinaaGreat
open Go.RowKit

def N1 : List Int := overL ((zeros 256).take 0) 2 [97, 98, 99]
def N2 : List Int := overL ((padTo N1).take 5) 4 [120, 121]
theorem n1_len : N1.length = 5 := by kernel_rfl
theorem n2_len : N2.length = 6 := by kernel_rfl
theorem chg1 : chg (zeros 256) (padTo N1) 64 = 2 := by kernel_rfl
theorem chg2 : chg (padTo N1) (padTo N2) 64 = 1 := by kernel_rfl
theorem chg3 : chg (padTo N2) (padTo ((padTo N2).take 0)) 64 = 2 := by kernel_rfl
theorem read1 : readL (padTo N2) 6 0 99 = [0, 0, 97, 98, 120, 121] := by kernel_rfl
theorem read2 : readL (padTo N1) 5 1 3 = [0, 97, 98] := by kernel_rfl
theorem n1_bytes : Bytes N1 := by
  unfold N1
  exact overL_bytes (fun x hx => by simp at hx) (fun x hx => by simp at hx; omega)
theorem n2_bytes : Bytes N2 := by
  unfold N2
  exact overL_bytes (fun x hx => padTo_bytes n1_bytes x (List.mem_of_mem_take hx)) (fun x hx => by simp at hx; omega)

/-- the first write -/
structure Filed1 (C : Nat → Blk) (ra : Int) : Prop where
  right : Right 20 C
  ok : FileOk 20 C 7 ra 5
  bytes : fileL 7 (leafAt C 3 ra) = padTo N1
  used : usedTo C 20 ≤ 8
  few : ∀ k, k < 20 → (C k).refs ≤ 112
theorem filed1 {C : Nat → Blk} {ra : Int} (h : TurnAt 20 (fun _ => Blk.zero) C 7 0 (zeros 256) (padTo N1) 64 ra 64) : Filed1 C ra := by
  obtain ⟨hz, he⟩ := fileOk_zero (key := 7) (size := 0) (right_zero 20 (by omega)) (by omega) (by omega)
  have hu := h.used
  have hf := h.turned.few
  rw [chg1] at hu
  rw [used_zero] at hu
  rw [← he] at h
  obtain ⟨h1, h2, _⟩ := h.file hz (by rw [n1_len]; omega) n1_bytes
  rw [n1_len] at h1
  exact ⟨h.turned.right, h1, h2, by omega, fun k hk => by have := hf k hk; omega⟩
/-- the second write -/
structure Filed2 (C : Nat → Blk) (ra rb : Int) : Prop where
  right : Right 20 C
  ok : FileOk 20 C 7 ra 5
  bytes : fileL 7 (leafAt C 3 ra) = padTo N1
  ok2 : FileOk 20 C 7 rb 6
  bytes2 : fileL 7 (leafAt C 3 rb) = padTo N2
  used : usedTo C 20 ≤ 12
  few : ∀ k, k < 20 → (C k).refs ≤ 160
theorem filed2 {B C : Nat → Blk} {ra rb : Int} (hB : Filed1 B ra) (h : TurnAt 20 B C 7 ra (padTo N1) (padTo N2) 64 rb 112) : Filed2 C ra rb := by
  have hu := h.used
  have hf := h.turned.few
  rw [chg2] at hu
  obtain ⟨e1, e2⟩ := hB.ok.ext h.turned.ext h.turned.right
  rw [← hB.bytes] at h
  obtain ⟨h1, h2, _⟩ := h.file hB.ok (by rw [n2_len]; omega) n2_bytes
  rw [n2_len] at h1
  have := hB.used
  exact ⟨h.turned.right, e1, e2.trans hB.bytes, h1, h2, by omega, fun k hk => by have := hf k hk; omega⟩
/-- the cut -/
theorem filed3 {B C : Nat → Blk} {ra rb rc : Int} (hB : Filed2 B ra rb) (h : TurnAt 20 B C 7 rb (padTo N2) (padTo ((padTo N2).take 0)) 64 rc 160) : rc = 0 := by
  rw [← hB.bytes2] at h
  have hl : ((fileL 7 (leafAt B 3 rb)).take 0).length = 0 := by simp
  obtain ⟨h1, h2, _⟩ := h.file hB.ok2 (by rw [hl]; omega) (fun x hx => by simp at hx)
  by_cases e : rc = 0
  · exact e
  · exfalso
    obtain ⟨i, hi, hne⟩ := root_leaf h.turned.right 3 rc h.turned.root e
    rcases h1.form i hi with f | f
    · exact hne f
    · apply f
      rw [← chunk_fileL 7 _ hi (h1.leaf04 i hi), h2]
      apply list_ext_getD
      · rw [chunk_length (padTo_length (by rw [hl]; omega)) hi]; rfl
      · intro j hj
        rw [chunk_length (padTo_length (by rw [hl]; omega)) hi] at hj
        rw [chunk_getD _ _ _ hj, padTo_getD, zero4_getD]
        simp

theorem str1 : strOfNums [0, 0, 97, 98, 120, 121] = ⟨#[0, 0, 97, 98, 120, 121]⟩ := by kernel_rfl
theorem str2 : strOfNums [0, 97, 98] = ⟨#[0, 97, 98]⟩ := by kernel_rfl

theorem NumsAt.out {Q : Nat → Prop} {k : IntKind} {w w' : World} {a : Option Addr} {n q : Nat} {l : List Int} (h : NumsAt Q k w a n l) (hq : ∀ b, Q b → b ≠ q) (ho : Out q w w') : NumsAt Q k w' a n l := by
  refine ⟨h.1, h.2.1, fun hn => ?_⟩
  obtain ⟨b, off, rfl, hlt, qb, hc⟩ := h.2.2 hn
  exact ⟨b, off, rfl, Nat.lt_of_lt_of_le hlt ho.size, qb, fun i hi => (ho.cell (p := ⟨b, off + i, none⟩) hlt (hq b qb)).trans (hc i hi)⟩
/-- a store of one's own, where another cell, and new memory, turned -/
theorem Own.out {w w' : World} {g n q : Nat} {B : Nat → Blk} (h : Own w g n B) (hq : q < g) (ho : Out q w w') : Own w' g n B := by
  have hlt := h.lt
  refine ⟨Nat.lt_of_lt_of_le h.lt ho.size, fun i hi => ?_, fun i hi => ?_⟩
  · obtain ⟨ka, kn, kc, ba, bn, bc, b⟩ := h.blocks i hi
    exact ⟨ka, kn, kc, ba, bn, bc, (ho.cell (p := ⟨g, _, none⟩) hlt (by show g ≠ q; omega)).trans b.c0, (ho.cell (p := ⟨g, _, none⟩) hlt (by show g ≠ q; omega)).trans b.c1, (ho.cell (p := ⟨g, _, none⟩) hlt (by show g ≠ q; omega)).trans b.c2, (ho.cell (p := ⟨g, _, none⟩) hlt (by show g ≠ q; omega)).trans b.c3, b.kids.out (fun _ h => by omega) ho, b.bytes.out (fun _ h => by omega) ho, b.refs, b.level, b.caps⟩
  · have e : w'.frozen? ⟨g, i, none⟩ = w.frozen? ⟨g, i, none⟩ := World.frozen?_of_block (w := w) (ho.block g hlt (by omega))
    exact e.trans (h.free i hi)
theorem CellsAt.out {w w' : World} {g q : Nat} {cs : Array Value} {t : TypeId} (h : CellsAt w g cs t) (hq : g ≠ q) (ho : Out q w w') : CellsAt w' g cs t := by
  unfold CellsAt
  rw [ho.block g h.lt hq]
  exact h
/-- a store and a new file are put into their variables -/
structure Vars (w w' : World) (q : Nat) (s : Value) (ra rs : Int) : Prop where
  store : CellsAt w' q #[s] 24
  file : CellsAt w' w.heap.size #[.int .i64 ra, .int .i64 rs] 60
  out : Out q w w'
theorem vars_of {w : World} {q : Nat} {u s : Value} (k : CellsAt w q #[u] 24) (ra rs : Int) : Vars w ((((w.alloc (.cells #[.int .i64 0, .int .i64 0] 60)).setCell ⟨q, 0, none⟩ s).setCell ⟨w.heap.size, 0, none⟩ (.int .i64 ra)).setCell ⟨w.heap.size, 1, none⟩ (.int .i64 rs)) q s ra rs := by
  have hq := k.lt
  have bA := below_alloc w (.cells #[.int .i64 0, .int .i64 0] 60)
  have k1 : CellsAt ((w.alloc (.cells #[.int .i64 0, .int .i64 0] 60)).setCell ⟨q, 0, none⟩ s) q #[s] 24 := by simpa using (k.below bA).set 0 s
  have f1 := (cellsAt_alloc w #[.int .i64 0, .int .i64 0] 60).past (a := ⟨q, 0, none⟩) (show w.heap.size ≠ q by omega) s
  have f2 := f1.set 0 (.int .i64 ra)
  have f3 := f2.set 1 (.int .i64 rs)
  refine ⟨(k1.past (a := ⟨w.heap.size, 0, none⟩) (show q ≠ w.heap.size by omega) _).past (a := ⟨w.heap.size, 1, none⟩) (show q ≠ w.heap.size by omega) _, by simpa using f3, ?_⟩
  have o1 : Out q w ((w.alloc (.cells #[.int .i64 0, .int .i64 0] 60)).setCell ⟨q, 0, none⟩ s) := (Out.of_below bA).trans (Out.of_kept (Kept.setCell (Kept.refl q _) (p := ⟨q, 0, none⟩) rfl s))
  exact (o1.setNew (a := ⟨w.heap.size, 0, none⟩) (Nat.le_refl _)).setNew (a := ⟨w.heap.size, 1, none⟩) (Nat.le_refl _)
/-- the row of a constant string's bytes -/
theorem lit_mark (w : World) (xs : List Int) (t : TypeId) (fr : Nat × Nat) (hw : ∀ x ∈ xs, (Lit.int .u8 x).wf = true) : NumsAt (fun _ => True) .u8 (w.alloc (.cells (xs.map (Value.int .u8)).toArray t fr)) (some ⟨w.heap.size, 0, none⟩) xs.length xs := by
  refine ⟨rfl, hw, fun _ => ⟨w.heap.size, 0, rfl, by simp, trivial, fun i hi => ?_⟩⟩
  rw [Nat.zero_add, World.cell?_alloc_mark]
  simp [List.getD, hi]

/-- the arguments' boxes -/
structure FE (W w : World) (a : Option Addr) (n c : Nat) (fr fs : Int) : Prop where
  s : CellsAt w W.heap.size #[.slice a n c] 24
  f : CellsAt w (W.heap.size + 1) #[.int .i64 fr, .int .i64 fs] 60
  bel : Below W.heap.size W w
theorem FE.below {W w w' : World} {a : Option Addr} {n c : Nat} {fr fs : Int} (h : FE W w a n c fr fs) (b : Below w.heap.size w w') : FE W w' a n c fr fs := ⟨h.s.below b, h.f.below b, Below.tr h.bel b⟩
theorem fe_start (w : World) (a : Option Addr) (n c : Nat) (fr fs : Int) : FE w ((w.alloc (.cells #[.slice a n c] 24)).alloc (.cells #[.int .i64 fr, .int .i64 fs] 60)) a n c fr fs :=
  ⟨(cellsAt_alloc w _ _).below (below_alloc _ (.cells #[.int .i64 fr, .int .i64 fs] 60)), cellsAt_alloc2 w (.cells #[.slice a n c] 24) _ _, below_two w _ _⟩

/-- a store and a file in boxes of their own -/
structure Box (w : World) (q : Nat) (a : Option Addr) (n c : Nat) (fr fs : Int) : Prop where
  s : CellsAt w q #[.slice a n c] 24
  f : CellsAt w (q + 1) #[.int .i64 fr, .int .i64 fs] 60
theorem Box.below {w w' : World} {q : Nat} {a : Option Addr} {n c : Nat} {fr fs : Int} (h : Box w q a n c fr fs) (b : Below w.heap.size w w') : Box w' q a n c fr fs := ⟨h.s.below b, h.f.below b⟩
theorem box_start (w : World) (a : Option Addr) (n c : Nat) (fr fs : Int) : Box ((w.alloc (.cells #[.slice a n c] 24)).alloc (.cells #[.int .i64 fr, .int .i64 fs] 60)) w.heap.size a n c fr fs :=
  ⟨(fe_start w a n c fr fs).s, (fe_start w a n c fr fs).f⟩

theorem readL_all (O : List Int) (s : Nat) (hO : O.length = 256) (hs : s ≤ 256) : readL O s 0 256 = O.take s := by
  unfold readL
  rw [List.drop_zero]
  exact List.take_of_length_le (by simp [hO]; omega)
theorem take_pad (N : List Int) : (padTo N).take N.length = N := by unfold padTo; simp
theorem take_getD (O : List Int) (s k : Nat) (h : k < s) : (O.take s).getD k 0 = O.getD k 0 := by simp [List.getD, h]
theorem take_getD_out (O : List Int) (s k : Nat) (h : s ≤ k) : (O.take s).getD k 0 = 0 := by
  simp only [List.getD]
  rw [List.getElem?_eq_none (by simp; omega)]
  rfl
theorem used_le (B : Nat → Blk) : ∀ n, usedTo B n ≤ n
  | 0 => Nat.le_refl _
  | n + 1 => by
    have := used_le B n
    rw [usedTo_succ]
    split <;> omega
theorem store_congr {w : World} {a : Option Addr} {n : Nat} {B C : Nat → Blk} (h : StoreAt w a n B) (e : ∀ k, k < n → B k = C k) : StoreAt w a n C := fun hp => by
  obtain ⟨b, off, rfl, hlt, hB⟩ := h hp
  exact ⟨b, off, rfl, hlt, hB.congr e⟩
end Go.Proofs.YtnmcgmpmcliinaaGreat
