/-
  The closed fact 'filed': three bytes, written over; what the laws of files keep in memory. Nothing here is trusted.
-/
import Derived.Test.YtaagnojdpedilacFileJ
import Derived.Lib.SmallJoins
import Derived.Lib.SlBytesConst
set_option linter.unusedVariables false
namespace Go.Proofs.Ytaagnojdpedilac
open Go.RowKit

def N1 : List Int := overL ((zeros 256).take 0) 2 [97, 98, 99]
def N2 : List Int := overL ((padTo N1).take 5) 4 [120, 121]
theorem n1_len : N1.length = 5 := by kernel_rfl
theorem n2_len : N2.length = 6 := by kernel_rfl
theorem chg1 : chg (zeros 256) (padTo N1) 64 = 2 := by kernel_rfl
theorem chg2 : chg (padTo N1) (padTo N2) 64 = 1 := by kernel_rfl
theorem chg3 : chg (padTo N2) (padTo ((padTo N2).take 0)) 64 = 2 := by kernel_rfl
theorem read1 : readL (padTo N2) 6 0 99 = [0, 0, 97, 98, 120, 121] := by kernel_rfl
theorem read2 : readL (padTo N1) 5 1 3 = [0, 97, 98] := by kernel_rfl
theorem n1_bytes : Bytes N1 := by
  unfold N1
  exact overL_bytes (fun x hx => by simp at hx) (fun x hx => by simp at hx; omega)
theorem n2_bytes : Bytes N2 := by
  unfold N2
  exact overL_bytes (fun x hx => padTo_bytes n1_bytes x (List.mem_of_mem_take hx)) (fun x hx => by simp at hx; omega)

/-- the first write -/
structure Filed1 (C : Nat → Blk) (ra : Int) : Prop where
  right : Right 20 C
  ok : FileOk 20 C 7 ra 5
  bytes : fileL 7 (leafAt C 3 ra) = padTo N1
  used : usedTo C 20 ≤ 8
  few : ∀ k, k < 20 → (C k).refs ≤ 112
theorem filed1 {C : Nat → Blk} {ra : Int} (h : TurnAt 20 (fun _ => Blk.zero) C 7 0 (zeros 256) (padTo N1) 64 ra 64) : Filed1 C ra := by
  obtain ⟨hz, he⟩ := fileOk_zero (key := 7) (size := 0) (right_zero 20 (by omega)) (by omega) (by omega)
  have hu := h.used
  have hf := h.turned.few
  rw [chg1] at hu
  rw [used_zero] at hu
  rw [← he] at h
  obtain ⟨h1, h2, _⟩ := h.file hz (by rw [n1_len]; omega) n1_bytes
  rw [n1_len] at h1
  exact ⟨h.turned.right, h1, h2, by omega, fun k hk => by have := hf k hk; omega⟩
/-- the second write -/
structure Filed2 (C : Nat → Blk) (ra rb : Int) : Prop where
  right : Right 20 C
  ok : FileOk 20 C 7 ra 5
  bytes : fileL 7 (leafAt C 3 ra) = padTo N1
  ok2 : FileOk 20 C 7 rb 6
  bytes2 : fileL 7 (leafAt C 3 rb) = padTo N2
  used : usedTo C 20 ≤ 12
  few : ∀ k, k < 20 → (C k).refs ≤ 160
theorem filed2 {B C : Nat → Blk} {ra rb : Int} (hB : Filed1 B ra) (h : TurnAt 20 B C 7 ra (padTo N1) (padTo N2) 64 rb 112) : Filed2 C ra rb := by
  have hu := h.used
  have hf := h.turned.few
  rw [chg2] at hu
  obtain ⟨e1, e2⟩ := hB.ok.ext h.turned.ext h.turned.right
  rw [← hB.bytes] at h
  obtain ⟨h1, h2, _⟩ := h.file hB.ok (by rw [n2_len]; omega) n2_bytes
  rw [n2_len] at h1
  have := hB.used
  exact ⟨h.turned.right, e1, e2.trans hB.bytes, h1, h2, by omega, fun k hk => by have := hf k hk; omega⟩
/-- the cut -/
theorem filed3 {B C : Nat → Blk} {ra rb rc : Int} (hB : Filed2 B ra rb) (h : TurnAt 20 B C 7 rb (padTo N2) (padTo ((padTo N2).take 0)) 64 rc 160) : rc = 0 := by
  rw [← hB.bytes2] at h
  have hl : ((fileL 7 (leafAt B 3 rb)).take 0).length = 0 := by simp
  obtain ⟨h1, h2, _⟩ := h.file hB.ok2 (by rw [hl]; omega) (fun x hx => by simp at hx)
  by_cases e : rc = 0
  · exact e
  · exfalso
    obtain ⟨i, hi, hne⟩ := root_leaf h.turned.right 3 rc h.turned.root e
    rcases h1.form i hi with f | f
    · exact hne f
    · apply f
      rw [← chunk_fileL 7 _ hi (h1.leaf04 i hi), h2]
      apply list_ext_getD
      · rw [chunk_length (padTo_length (by rw [hl]; omega)) hi]; rfl
      · intro j hj
        rw [chunk_length (padTo_length (by rw [hl]; omega)) hi] at hj
        rw [chunk_getD _ _ _ hj, padTo_getD, zero4_getD]
        simp

theorem str1 : strOfNums [0, 0, 97, 98, 120, 121] = ⟨#[0, 0, 97, 98, 120, 121]⟩ := by kernel_rfl
theorem str2 : strOfNums [0, 97, 98] = ⟨#[0, 97, 98]⟩ := by kernel_rfl

theorem NumsAt.out {Q : Nat → Prop} {k : IntKind} {w w' : World} {a : Option Addr} {n q : Nat} {l : List Int} (h : NumsAt Q k w a n l) (hq : ∀ b, Q b → b ≠ q) (ho : Out q w w') : NumsAt Q k w' a n l := by
  refine ⟨h.1, h.2.1, fun hn => ?_⟩
  obtain ⟨b, off, rfl, hlt, qb, hc⟩ := h.2.2 hn
  exact ⟨b, off, rfl, Nat.lt_of_lt_of_le hlt ho.size, qb, fun i hi => (ho.cell (p := ⟨b, off + i, none⟩) hlt (hq b qb)).trans (hc i hi)⟩
/-- a store of one's own, where another cell, and new memory, turned -/
theorem Own.out {w w' : World} {g n q : Nat} {B : Nat → Blk} (h : Own w g n B) (hq : q < g) (ho : Out q w w') : Own w' g n B := by
  have hlt := h.lt
  refine ⟨Nat.lt_of_lt_of_le h.lt ho.size, fun i hi => ?_, fun i hi => ?_⟩
  · obtain ⟨ka, kn, kc, ba, bn, bc, b⟩ := h.blocks i hi
    exact ⟨ka, kn, kc, ba, bn, bc, (ho.cell (p := ⟨g, _, none⟩) hlt (by show g ≠ q; omega)).trans b.c0, (ho.cell (p := ⟨g, _, none⟩) hlt (by show g ≠ q; omega)).trans b.c1, (ho.cell (p := ⟨g, _, none⟩) hlt (by show g ≠ q; omega)).trans b.c2, (ho.cell (p := ⟨g, _, none⟩) hlt (by show g ≠ q; omega)).trans b.c3, b.kids.out (fun _ h => by omega) ho, b.bytes.out (fun _ h => by omega) ho, b.refs, b.level, b.caps⟩
  · have e : w'.frozen? ⟨g, i, none⟩ = w.frozen? ⟨g, i, none⟩ := World.frozen?_of_block (w := w) (ho.block g hlt (by omega))
    exact e.trans (h.free i hi)
theorem CellsAt.out {w w' : World} {g q : Nat} {cs : Array Value} {t : TypeId} (h : CellsAt w g cs t) (hq : g ≠ q) (ho : Out q w w') : CellsAt w' g cs t := by
  unfold CellsAt
  rw [ho.block g h.lt hq]
  exact h
/-- a store and a new file are put into their variables -/
structure Vars (w w' : World) (q : Nat) (s : Value) (ra rs : Int) : Prop where
  store : CellsAt w' q #[s] 24
  file : CellsAt w' w.heap.size #[.int .i64 ra, .int .i64 rs] 44
  out : Out q w w'
theorem vars_of {w : World} {q : Nat} {u s : Value} (k : CellsAt w q #[u] 24) (ra rs : Int) : Vars w ((((w.alloc (.cells #[.int .i64 0, .int .i64 0] 44)).setCell ⟨q, 0, none⟩ s).setCell ⟨w.heap.size, 0, none⟩ (.int .i64 ra)).setCell ⟨w.heap.size, 1, none⟩ (.int .i64 rs)) q s ra rs := by
  have hq := k.lt
  have bA := below_alloc w (.cells #[.int .i64 0, .int .i64 0] 44)
  have k1 : CellsAt ((w.alloc (.cells #[.int .i64 0, .int .i64 0] 44)).setCell ⟨q, 0, none⟩ s) q #[s] 24 := by simpa using (k.below bA).set 0 s
  have f1 := (cellsAt_alloc w #[.int .i64 0, .int .i64 0] 44).past (a := ⟨q, 0, none⟩) (show w.heap.size ≠ q by omega) s
  have f2 := f1.set 0 (.int .i64 ra)
  have f3 := f2.set 1 (.int .i64 rs)
  refine ⟨(k1.past (a := ⟨w.heap.size, 0, none⟩) (show q ≠ w.heap.size by omega) _).past (a := ⟨w.heap.size, 1, none⟩) (show q ≠ w.heap.size by omega) _, by simpa using f3, ?_⟩
  have o1 : Out q w ((w.alloc (.cells #[.int .i64 0, .int .i64 0] 44)).setCell ⟨q, 0, none⟩ s) := (Out.of_below bA).trans (Out.of_kept (Kept.setCell (Kept.refl q _) (p := ⟨q, 0, none⟩) rfl s))
  exact (o1.setNew (a := ⟨w.heap.size, 0, none⟩) (Nat.le_refl _)).setNew (a := ⟨w.heap.size, 1, none⟩) (Nat.le_refl _)
/-- the row of a constant string's bytes -/
theorem lit_mark (w : World) (xs : List Int) (t : TypeId) (fr : Nat × Nat) (hw : ∀ x ∈ xs, (Lit.int .u8 x).wf = true) : NumsAt (fun _ => True) .u8 (w.alloc (.cells (xs.map (Value.int .u8)).toArray t fr)) (some ⟨w.heap.size, 0, none⟩) xs.length xs := by
  refine ⟨rfl, hw, fun _ => ⟨w.heap.size, 0, rfl, by simp, trivial, fun i hi => ?_⟩⟩
  rw [Nat.zero_add, World.cell?_alloc_mark]
  simp [List.getD, hi]

set_option maxHeartbeats 8000000 in
set_option maxRecDepth 100000 in
theorem filed_any (w : World) : Calls Try.prog 21 #[] w fun e w' => e = .returned (.bool true) ∧ Below w.heap.size w w' := by
  go_enter Try.func21, Try.ntmps21
  go_wp2_with fail
  refine (storeNew_ok 20 w (by omega)).mono ?_
  rintro e w1 ⟨⟨g, c, rfl, hg, hgl, hS⟩, b1⟩
  replace hS := store_of hgl hS
  have hq := b1.size
  have kc := Joins.run_convert_bytes_const_at (P := Try.prog) (w1.alloc (.cells #[.slice (some ⟨g, 0, none⟩) 20 c] 24)) 25 5 #[.int .u8 97, .int .u8 98, .int .u8 99] 3 3 (w1.heap.size + 1) (by simp) Try.underlying25 Try.underlying5
  have b2 := (below_alloc w1 (.cells #[.slice (some ⟨g, 0, none⟩) 20 c] 24)).alloc (by simp) (.cells #[.int .u8 97, .int .u8 98, .int .u8 99] 5 (3, 4))
  have kq : CellsAt _ w1.heap.size #[.slice (some ⟨g, 0, none⟩) 20 c] 24 := (cellsAt_alloc w1 _ _).below (below_alloc _ (.cells #[.int .u8 97, .int .u8 98, .int .u8 99] 5 (3, 4)))
  have hN := lit_mark (w1.alloc (.cells #[.slice (some ⟨g, 0, none⟩) 20 c] 24)) [97, 98, 99] 5 (3, 4) (by decide)
  simp only [List.map_cons, List.map_nil, World.size_alloc, List.length_cons, List.length_nil] at hN
  replace hN := hid hN
  replace kq := hid kq
  replace hS := hid (hS.below b2)
  replace b2 := Below.tr b1 b2
  clear b1
  go_wp2_with fail
  clear kc
  generalize (w1.alloc (.cells #[.slice (some ⟨g, 0, none⟩) 20 c] 24)).alloc (.cells #[.int .u8 97, .int .u8 98, .int .u8 99] 5 (3, 4)) = w2 at *
  have hq2 := kq.out.lt
  refine (fileWrite_any (some ⟨g, 0, none⟩) 20 c (fun _ => Blk.zero) 7 0 0 2 (some ⟨w1.heap.size + 1, 0, none⟩) 3 3 [97, 98, 99] 64 w2 hS.out hN.out (by omega) (by omega) (fun k _ => by show (0 : Int) ≤ 64; omega)).mono ?_
  rintro e w3 ⟨⟨x, ln, lc, ra, rs, e', rfl, hcase⟩, b3⟩
  have he := (fileOk_zero (n := 20) (B := fun _ => Blk.zero) (key := 7) (size := 0) (right_zero 20 (by omega)) (by omega) (by omega))
  rw [he.2] at hcase
  rcases hcase with ⟨_, _, _, _, _, _, hno⟩ | ⟨rfl, _, _, g3, C, rfl, rfl, rfl, hrs, hg3, hOwn, hT⟩
  · exfalso
    have := (hno he.1 (by simp)).2
    have hc1 : chg (zeros 256) (padTo (overL ((zeros 256).take (0 : Int).toNat) (2 : Int).toNat [97, 98, 99])) 64 = 2 := chg1
    rw [hc1, used_zero] at this
    omega
  have hF1 : Filed1 C ra := filed1 hT
  obtain rfl : rs = 5 := by rw [hrs]; exact congrArg Int.ofNat n1_len
  have bA := below_alloc w3 (.cells #[.int .i64 0, .int .i64 0] 44)
  have kq3 := kq.out.below b3
  have m0 := (kq3.below bA).cell 0
  have m1 := (kq3.below bA).frozen 0
  simp at m0
  have hs3 := b3.size
  have hqne : w3.heap.size ≠ w1.heap.size := by omega
  have kF := (cellsAt_alloc w3 #[.int .i64 0, .int .i64 0] 44).past (a := ⟨w1.heap.size, 0, none⟩) hqne (.slice (some ⟨g3, 0, none⟩) 20 20)
  have p0 := kF.cell 0
  have p1 := kF.frozen 0
  have p2 := kF.cell 1
  have p3 := kF.frozen 1
  simp only [List.getElem?_toArray, List.getElem?_cons_zero, List.getElem?_cons_succ] at p0 p2
  have V := vars_of (s := .slice (some ⟨g3, 0, none⟩) 20 20) kq3 ra 5
  have hS4 := (hOwn.out (by omega) V.out).store
  have b4 := (Below.tr b2 b3).trans (V.out.below (B := w.heap.size) hq (by omega))
  have hv4 : w3.heap.size < ((((w3.alloc (.cells #[.int .i64 0, .int .i64 0] 44)).setCell ⟨w1.heap.size, 0, none⟩ (.slice (some ⟨g3, 0, none⟩) 20 20)).setCell ⟨w3.heap.size, 0, none⟩ (.int .i64 ra)).setCell ⟨w3.heap.size, 1, none⟩ (.int .i64 5)).heap.size := V.file.lt
  replace V := hid V
  replace hF1 := hid hF1
  replace hS4 := hid hS4
  replace b4 := hid b4
  clear hN hS b2 hT hrs he kq b3 hOwn kF kq3 bA
  go_upto_region 3 with fail
  clear m0 m1 p0 p1 p2 p3
  generalize (((w3.alloc (.cells #[.int .i64 0, .int .i64 0] 44)).setCell ⟨w1.heap.size, 0, none⟩ (.slice (some ⟨g3, 0, none⟩) 20 20)).setCell ⟨w3.heap.size, 0, none⟩ (.int .i64 ra)).setCell ⟨w3.heap.size, 1, none⟩ (.int .i64 5) = w4 at *
  have kc := Joins.run_convert_bytes_const_at (P := Try.prog) w4 25 5 #[.int .u8 120, .int .u8 121] 2 2 w4.heap.size rfl Try.underlying25 Try.underlying5
  have bB := below_alloc w4 (.cells #[.int .u8 120, .int .u8 121] 5 (2, 3))
  have hN := lit_mark w4 [120, 121] 5 (2, 3) (by decide)
  simp only [List.map_cons, List.map_nil, List.length_cons, List.length_nil] at hN
  have m0 := V.out.store.cell 0
  have m1 := V.out.file.cell 0
  have m2 := V.out.file.cell 1
  simp at m0 m1 m2
  have kF := V.out.file.below bB
  replace hS4 := hid (hS4.out.below bB)
  replace b4 := hid (Below.tr b4.out bB)
  replace hN := hid hN
  replace kF := hid kF
  clear V bB
  go_wp2_with fail
  clear kc m0 m1 m2
  generalize w4.alloc (.cells #[.int .u8 120, .int .u8 121] 5 (2, 3)) = w5 at *
  refine (fileWrite_any (some ⟨g3, 0, none⟩) 20 20 C 7 ra 5 4 (some ⟨w4.heap.size, 0, none⟩) 2 2 [120, 121] 112 w5 hS4.out hN.out (by omega) (by omega) hF1.out.few).mono ?_
  rintro e w6 ⟨⟨x, ln, lc, rb, rs, e', rfl, hcase⟩, b6⟩
  rw [hF1.out.bytes] at hcase
  rcases hcase with ⟨_, _, _, _, _, _, hno⟩ | ⟨rfl, _, _, g6, D, rfl, rfl, rfl, hrs, hg6, hOwn, hT⟩
  · exfalso
    have := (hno hF1.out.ok (by simp)).2
    have hc2 : chg (padTo N1) (padTo (overL ((padTo N1).take (5 : Int).toNat) (4 : Int).toNat [120, 121])) 64 = 1 := chg2
    have := hF1.out.used
    omega
  have hF2 : Filed2 D ra rb := filed2 hF1.out hT
  obtain rfl : rs = 6 := by rw [hrs]; exact congrArg Int.ofNat n2_len
  replace hF2 := hid hF2
  replace kF := hid (kF.out.below b6)
  have b7 := hid (Below.tr b4.out b6)
  replace hOwn := hid hOwn
  clear hN hS4 hF1 hrs hT b4 b6
  have bT := below_two w6 (.cells #[.slice (some ⟨g6, 0, none⟩) 20 20] 24) (.cells #[.int .i64 rb, .int .i64 6] 44)
  have kT : CellsAt _ w6.heap.size #[.slice (some ⟨g6, 0, none⟩) 20 20] 24 := (cellsAt_alloc w6 _ _).below (below_alloc _ (.cells #[.int .i64 rb, .int .i64 6] 44))
  have kH : CellsAt _ (w6.heap.size + 1) #[.int .i64 rb, .int .i64 6] 44 := cellsAt_alloc2 w6 (.cells #[.slice (some ⟨g6, 0, none⟩) 20 20] 24) _ _
  replace kF := hid (kF.out.below bT)
  have hSt := hid (hOwn.out.store.below bT)
  replace b7 := hid (Below.tr b7.out bT)
  replace kT := hid kT
  replace kH := hid kH
  clear bT hOwn
  go_wp2_with fail
  generalize (w6.alloc (.cells #[.slice (some ⟨g6, 0, none⟩) 20 20] 24)).alloc (.cells #[.int .i64 rb, .int .i64 6] 44) = w7 at *
  refine (fileRead_any (some ⟨g6, 0, none⟩) 20 20 D 7 rb 6 0 99 w7 hSt.out).mono ?_
  rintro e w8 ⟨⟨e', _, _, hno⟩ | ⟨x1, n1, c1, rfl, _, _, hR1⟩, b8⟩
  · exact absurd ⟨hF2.out.ok2, by omega, by omega⟩ hno
  have hr1 : readL (fileL 7 (leafAt D 3 rb)) (6 : Int).toNat (0 : Int).toNat (99 : Int).toNat = [0, 0, 97, 98, 120, 121] := by rw [hF2.out.bytes2]; exact read1
  rw [hr1] at hR1
  replace hR1 := hid (hR1.weaken (R := fun _ => True) (fun _ _ _ => trivial))
  replace kF := hid (kF.out.below b8)
  replace kT := hid (kT.out.below b8)
  replace kH := hid (kH.out.below b8)
  replace hSt := hid (hSt.out.below b8)
  replace b7 := hid (Below.tr b7.out b8)
  have m0 := kT.out.cell 0
  have m1 := kF.out.cell 0
  have m2 := kF.out.cell 1
  simp at m0 m1 m2
  clear b8 hr1
  go_wp2_with fail
  refine (fileRead_any (some ⟨g6, 0, none⟩) 20 20 D 7 ra 5 1 3 w8 hSt.out).mono ?_
  rintro e w9 ⟨⟨e', _, _, hno⟩ | ⟨x2, n2, c2, rfl, _, _, hR2⟩, b9⟩
  · exact absurd ⟨hF2.out.ok, by omega, by omega⟩ hno
  have hr2 : readL (fileL 7 (leafAt D 3 ra)) (5 : Int).toNat (1 : Int).toNat (3 : Int).toNat = [0, 97, 98] := by rw [hF2.out.bytes]; exact read2
  rw [hr2] at hR2
  replace hR2 := hid (hR2.weaken (R := fun _ => True) (fun _ _ _ => trivial))
  replace hR1 := hid (hR1.out.below b9)
  replace kT := hid (kT.out.below b9)
  replace kH := hid (kH.out.below b9)
  replace hSt := hid (hSt.out.below b9)
  replace b7 := hid (Below.tr b7.out b9)
  clear b9 hr2 m0 m1 m2 kF
  have m0 := kT.out.cell 0
  have m1 := kH.out.cell 0
  have m2 := kH.out.cell 1
  simp at m0 m1 m2
  go_wp2_with fail
  refine (fileCut_any (some ⟨g6, 0, none⟩) 20 20 D 7 rb 6 0 160 w9 hSt.out (by omega) (by omega) hF2.out.few).mono ?_
  rintro e w10 ⟨⟨x, ln, lc, rd, rs, e', rfl, hcase⟩, b10⟩
  rw [hF2.out.bytes2] at hcase
  rcases hcase with ⟨_, _, _, _, _, _, hno⟩ | ⟨rfl, _, _, g10, E, rfl, rfl, rfl, hrs, hg10, hOwn, hT⟩
  · exfalso
    have := (hno hF2.out.ok2 (by omega)).2
    have hc3 : chg (padTo N2) (padTo ((padTo N2).take (0 : Int).toNat)) 64 = 2 := chg3
    have := hF2.out.used
    omega
  obtain rfl : rd = 0 := filed3 hF2.out hT
  obtain rfl : rs = 0 := by rw [hrs]; simp
  have bE := below_two w10 (.cells #[.slice (some ⟨g10, 0, none⟩) 20 20] 24) (.cells #[.int .i64 0, .int .i64 0] 44)
  have hR1' := (hR1.out.below b10).below bE
  have hR2' := (hR2.out.below b10).below bE
  have b11 := hid (Below.tr (Below.tr b7.out b10) bE)
  have g1 := run_string_of _ c1 hR1'
  have g2 := run_string_of _ c2 hR2'
  rw [str1] at g1
  rw [str2] at g2
  clear hR1 hR2 hR1' hR2' hSt b7 b10 bE kT kH m0 m1 m2 hT hOwn hrs
  go_wp2_with fail
  go_ret
  exact ⟨rfl, b11.out⟩

/-- the arguments' boxes -/
structure FE (W w : World) (a : Option Addr) (n c : Nat) (fr fs : Int) : Prop where
  s : CellsAt w W.heap.size #[.slice a n c] 24
  f : CellsAt w (W.heap.size + 1) #[.int .i64 fr, .int .i64 fs] 44
  bel : Below W.heap.size W w
theorem FE.below {W w w' : World} {a : Option Addr} {n c : Nat} {fr fs : Int} (h : FE W w a n c fr fs) (b : Below w.heap.size w w') : FE W w' a n c fr fs := ⟨h.s.below b, h.f.below b, Below.tr h.bel b⟩
theorem fe_start (w : World) (a : Option Addr) (n c : Nat) (fr fs : Int) : FE w ((w.alloc (.cells #[.slice a n c] 24)).alloc (.cells #[.int .i64 fr, .int .i64 fs] 44)) a n c fr fs :=
  ⟨(cellsAt_alloc w _ _).below (below_alloc _ (.cells #[.int .i64 fr, .int .i64 fs] 44)), cellsAt_alloc2 w (.cells #[.slice a n c] 24) _ _, below_two w _ _⟩

/-- a store and a file in boxes of their own -/
structure Box (w : World) (q : Nat) (a : Option Addr) (n c : Nat) (fr fs : Int) : Prop where
  s : CellsAt w q #[.slice a n c] 24
  f : CellsAt w (q + 1) #[.int .i64 fr, .int .i64 fs] 44
theorem Box.below {w w' : World} {q : Nat} {a : Option Addr} {n c : Nat} {fr fs : Int} (h : Box w q a n c fr fs) (b : Below w.heap.size w w') : Box w' q a n c fr fs := ⟨h.s.below b, h.f.below b⟩
theorem box_start (w : World) (a : Option Addr) (n c : Nat) (fr fs : Int) : Box ((w.alloc (.cells #[.slice a n c] 24)).alloc (.cells #[.int .i64 fr, .int .i64 fs] 44)) w.heap.size a n c fr fs :=
  ⟨(fe_start w a n c fr fs).s, (fe_start w a n c fr fs).f⟩

theorem readL_all (O : List Int) (s : Nat) (hO : O.length = 256) (hs : s ≤ 256) : readL O s 0 256 = O.take s := by
  unfold readL
  rw [List.drop_zero]
  exact List.take_of_length_le (by simp [hO]; omega)
theorem take_pad (N : List Int) : (padTo N).take N.length = N := by unfold padTo; simp
theorem take_getD (O : List Int) (s k : Nat) (h : k < s) : (O.take s).getD k 0 = O.getD k 0 := by simp [List.getD, h]
theorem take_getD_out (O : List Int) (s k : Nat) (h : s ≤ k) : (O.take s).getD k 0 = 0 := by
  simp only [List.getD]
  rw [List.getElem?_eq_none (by simp; omega)]
  rfl
theorem used_le (B : Nat → Blk) : ∀ n, usedTo B n ≤ n
  | 0 => Nat.le_refl _
  | n + 1 => by
    have := used_le B n
    rw [usedTo_succ]
    split <;> omega
theorem store_congr {w : World} {a : Option Addr} {n : Nat} {B C : Nat → Blk} (h : StoreAt w a n B) (e : ∀ k, k < n → B k = C k) : StoreAt w a n C := fun hp => by
  obtain ⟨b, off, rfl, hlt, hB⟩ := h hp
  exact ⟨b, off, rfl, hlt, hB.congr e⟩
end Go.Proofs.Ytaagnojdpedilac
