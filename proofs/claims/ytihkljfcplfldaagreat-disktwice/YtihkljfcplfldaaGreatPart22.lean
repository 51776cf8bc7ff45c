/-
  ImgB, ImgC, ImgD in one text. Nothing here is trusted.
-/
import Derived.Test.YtihkljfcplfldaaGreatPart21
import Derived.Lib.ConvBytes
set_option linter.unusedVariables false
namespace Go.Proofs.YtihkljfcplfldaaGreat
open Go.RowKit

theorem RetWr.run {base : Nat} {w : World} {wb : Nat} {v : Value} {L D : List Int} {e : Ending} {w' : World} (h : RetWr base w wb v L D e w') : e = .returned (.tuple #[]) := h.1

/-- a row of one number in new memory -/
theorem nums_one (w : World) (x : Int) (hx : -9223372036854775808 ≤ x ∧ x ≤ 9223372036854775807) (Q : Nat → Prop) (hq : Q w.heap.size) : NumsAt Q .i64 (w.alloc (.cells #[.int .i64 x] 3)) (some ⟨w.heap.size, 0, none⟩) 1 [x] := by
  have k := cellsAt_alloc w #[.int .i64 x] 3
  refine ⟨rfl, fun z hz => ?_, fun _ => ⟨_, _, rfl, k.lt, hq, fun i hi => ?_⟩⟩
  · simp only [List.mem_cons, List.not_mem_nil, or_false] at hz
    subst hz
    exact WalkArith.wf_i64 hx
  · obtain rfl : i = 0 := by omega
    exact k.cell 0
theorem nums_pair (w : World) (x y : Int) (hx : -9223372036854775808 ≤ x ∧ x ≤ 9223372036854775807) (hy : -9223372036854775808 ≤ y ∧ y ≤ 9223372036854775807) (Q : Nat → Prop) (hq : Q w.heap.size) : NumsAt Q .i64 (w.alloc (.cells #[.int .i64 x, .int .i64 y] 3)) (some ⟨w.heap.size, 0, none⟩) 2 [x, y] := by
  have k := cellsAt_alloc w #[.int .i64 x, .int .i64 y] 3
  refine ⟨rfl, fun z hz => ?_, fun _ => ⟨_, _, rfl, k.lt, hq, fun i hi => ?_⟩⟩
  · simp only [List.mem_cons, List.not_mem_nil, or_false] at hz
    rcases hz with rfl | rfl
    · exact WalkArith.wf_i64 hx
    · exact WalkArith.wf_i64 hy
  · rcases (by omega : i = 0 ∨ i = 1) with rfl | rfl
    · exact k.cell 0
    · exact k.cell 1
theorem nums_three (w : World) (x y z : Int) (hx : -9223372036854775808 ≤ x ∧ x ≤ 9223372036854775807) (hy : -9223372036854775808 ≤ y ∧ y ≤ 9223372036854775807) (hz : -9223372036854775808 ≤ z ∧ z ≤ 9223372036854775807) (Q : Nat → Prop) (hq : Q w.heap.size) : NumsAt Q .i64 (w.alloc (.cells #[.int .i64 x, .int .i64 y, .int .i64 z] 3)) (some ⟨w.heap.size, 0, none⟩) 3 [x, y, z] := by
  have k := cellsAt_alloc w #[.int .i64 x, .int .i64 y, .int .i64 z] 3
  refine ⟨rfl, fun u hu => ?_, fun _ => ⟨_, _, rfl, k.lt, hq, fun i hi => ?_⟩⟩
  · simp only [List.mem_cons, List.not_mem_nil, or_false] at hu
    rcases hu with rfl | rfl | rfl
    · exact WalkArith.wf_i64 hx
    · exact WalkArith.wf_i64 hy
    · exact WalkArith.wf_i64 hz
  · rcases (by omega : i = 0 ∨ i = 1 ∨ i = 2) with rfl | rfl | rfl
    · exact k.cell 0
    · exact k.cell 1
    · exact k.cell 2
/-- a new block is none of the writer's -/
theorem Wr.fresh {base : Nat} {w : World} {wb : Nat} {v : Value} {L : List Int} (h : Wr base w wb v L) {k : Nat} (hk : w.heap.size ≤ k) : ¬ WM wb v k := by
  rintro (rfl | e)
  · have := h.box.lt; omega
  · have := (h.row.lt k e).2; omega
/-- what lies below base is none of the writer's -/
theorem Wr.old {base : Nat} {w : World} {wb : Nat} {v : Value} {L : List Int} (h : Wr base w wb v L) {k : Nat} (hk : k < base) : ¬ WM wb v k := by
  rintro (rfl | e)
  · have := h.ge; omega
  · have := (h.row.lt k e).1; omega
/-- a block that is none of the writer's is none of it later -/
theorem WrN.still {w w' : World} {wb : Nat} {v v' : Value} (h : WrN w w' wb v v') {k : Nat} (hk : ¬ WM wb v k) (hl : k < w.heap.size) : ¬ WM wb v' k := by
  rintro (rfl | e)
  · exact hk (.inl rfl)
  · rcases h.new k e with e | e
    · exact hk (.inr e)
    · omega

/-- on the way from w0: the writer has L, v is its row, and all that was in W is there -/
structure WS (W w0 w : World) (wb : Nat) (v0 v : Value) (L : List Int) : Prop where
  wr : Wr W.heap.size w wb v L
  n : WrN w0 w wb v0 v
  b : Below W.heap.size W w
theorem ws_start {W w : World} {wb : Nat} {v : Value} {L : List Int} (hb : Below W.heap.size W w) (hW : Wr W.heap.size w wb v L) : WS W w w wb v v L := ⟨hW, wrN_refl _ _ _, hb⟩
theorem WS.below {W w0 w w' : World} {wb : Nat} {v0 v : Value} {L : List Int} (h : WS W w0 w wb v0 v L) (b : Below w.heap.size w w') : WS W w0 w' wb v0 v L := ⟨h.wr.below b, h.n.trans (wrN_below b), Below.tr h.b b⟩
theorem WS.step {W w0 w w' : World} {wb : Nat} {v0 v v' : Value} {L M : List Int} (h : WS W w0 w wb v0 v L) (hW : Wr W.heap.size w' wb v' M) (hn : WrN w w' wb v v') : WS W w0 w' wb v0 v' M := ⟨hW, h.n.trans hn, h.b.trans (hn.keep h.wr h.b.size)⟩
theorem WS.nums {W w0 w : World} {wb : Nat} {v0 v : Value} {L : List Int} (h : WS W w0 w wb v0 v L) {Q : Nat → Prop} {k : IntKind} {a : Option Addr} {n : Nat} {l : List Int} (hN : NumsAt Q k W a n l) : NumsAt (fun b => ¬ WM wb v b) k w a n l :=
  ((hN.weaken (R := fun b => b < W.heap.size) (fun b hb _ => hb)).below h.b).weaken (fun b _ hb => h.wr.old hb)
/-- a box of the call's own -/
structure Box1 (w : World) (wb : Nat) (v : Value) (k : Nat) (cs : Array Value) (t : TypeId) : Prop where
  cells : CellsAt w k cs t
  none : ¬ WM wb v k
theorem WS.box {W w0 w : World} {wb : Nat} {v0 v : Value} {L : List Int} (h : WS W w0 w wb v0 v L) (cs : Array Value) (t : TypeId) : Box1 (w.alloc (.cells cs t)) wb v w.heap.size cs t := ⟨cellsAt_alloc w cs t, h.wr.fresh (Nat.le_refl _)⟩
theorem Box1.below {w w' : World} {wb : Nat} {v : Value} {k : Nat} {cs : Array Value} {t : TypeId} (h : Box1 w wb v k cs t) (b : Below w.heap.size w w') : Box1 w' wb v k cs t := ⟨h.cells.below b, h.none⟩
theorem Box1.step {w w' : World} {wb : Nat} {v v' : Value} {k : Nat} {cs : Array Value} {t : TypeId} (h : Box1 w wb v k cs t) (n : WrN w w' wb v v') : Box1 w' wb v' k cs t := ⟨n.cells h.cells h.none, n.still h.none h.cells.lt⟩
theorem WS.ret {W w0 w : World} {wb : Nat} {v0 v : Value} {L D : List Int} (h : WS W w0 w wb v0 v (L ++ D)) : RetWr W.heap.size w0 wb v0 L D (.returned (.tuple #[])) w := ⟨rfl, v, h.wr, h.n⟩

set_option maxHeartbeats 1000000 in
set_option maxRecDepth 100000 in
theorem wbytes_any (base wb : Nat) (v : Value) (L : List Int) (ba : Option Addr) (bn bc : Nat) (b : List Int) (w : World) (hW : Wr base w wb v L) (hN : NumsAt (fun b => ¬ WM wb v b) .u8 w ba bn b) (hB : Byt b) (hlen : L.length + 2 + bn ≤ 900000) :
    Calls Tryz.prog 116 #[.pointer (some ⟨wb, 0, none⟩), .slice ba bn bc] w fun e w' => RetWr base w wb v L (bytesB b) e w' := by
  have hbl := hid hN.1
  have b0 := below_alloc w (.cells #[.int .i64 (bn : Int)] 3)
  have hN1 := hid (nums_one w (bn : Int) (by omega) (fun b => ¬ WM wb v b) (hW.fresh (Nat.le_refl _)))
  have hW0 := hid (hW.below b0)
  replace hW := hid hW
  replace hN := hid hN
  replace hB := hid hB
  replace b0 := hid b0
  go_enter Tryz.func116, Tryz.ntmps116
  go_wp2_with fail
  generalize w.alloc (.cells #[.int .i64 (bn : Int)] 3) = w0 at *
  refine (numbers_any base wb v L (some ⟨w.heap.size, 0, none⟩) 1 1 [(bn : Int)] w0 hW0.out hN1.out (by omega)).mono ?_
  rintro e w1 ⟨rfl, v1, hW1, hO1⟩
  rw [numsB_one] at hW1
  have hN2 := (hN.out.below b0.out)
  have hN3 := hO1.only.nums hN2 (fun _ q => q)
  obtain ⟨va, vm, vc, rfl, hvm⟩ := hW1.val
  have hvm' : vm ≤ 900000 := by rw [hvm, List.length_append, numB_len]; omega
  have hw0 := hW1.box.cell 0
  have hwz := hW1.box.frozen 0
  simp at hw0
  have hbs := Nat.le_trans hW1.ge (Nat.le_of_lt hW1.box.lt)
  obtain ⟨v2, w2, hrun, hrow2, hg2, hat2⟩ := run_append_u8 _ base 28 (.slice va vm vc) _ _ hW1.row ba bn bc b (hN3.weaken fun _ _ _ => trivial) hbs (by omega) (by omega)
  have hb2 := hW1.boxed hg2
  have hb0 := hb2.cell 0
  have hbz := hb2.frozen 0
  simp at hb0
  have hput := hid (hW1.put (D := b) (by rw [hbl.out]; exact hrow2) hg2 hat2 hB.out)
  obtain ⟨a2, m2, c2, rfl, hm2⟩ := hput.out.1.val
  clear hm2
  have hO2 := hid ((wrN_below b0.out).trans (hO1.trans hput.out.2))
  have hW2 : Hid (Wr base (w2.setCell ⟨wb, 0, none⟩ (.slice a2 m2 c2)) wb (.slice a2 m2 c2) (L ++ bytesB b)) := hid (by unfold bytesB; rw [hbl.out, ← List.append_assoc]; exact hput.out.1)
  clear hput hrow2 hg2 hat2 hb2 hW1 hO1 hN2 hN3 hvm hbs
  go_wp2_with (at_builtin; refine Lib.wpList_append_run _ rfl _ _ _ _ rfl _ _ rfl rfl _ _ hrun ?_)
  go_end0
  exact ⟨rfl, _, hW2.out, hO2.out⟩

/-- a name's bytes -/
def strL (s : ByteArray) : List Int := s.data.toList.map fun b => (b.toNat : Int)
def nameB (s : ByteArray) : List Int := bytesB (strL s)
theorem strL_len (s : ByteArray) : (strL s).length = s.size := by unfold strL; rw [List.length_map, Array.length_toList]; rfl
theorem byt_strL (s : ByteArray) : Byt (strL s) := fun x hx => by
  obtain ⟨b, _, rfl⟩ := List.mem_map.1 hx
  have := UInt8.toNat_lt b
  omega
theorem nameB_len (s : ByteArray) : (nameB s).length = 2 + s.size := by rw [nameB, bytesB_len, strL_len]

theorem conv_below (w : World) (s : ByteArray) : Below w.heap.size w (Lib.bytesWorld w 5 s) :=
  ⟨rfl, rfl, rfl, by rw [Lib.bytesWorld_size]; omega, fun k hk => Lib.bytesWorld_at_old w _ s k hk⟩
theorem conv_nums (w : World) (s : ByteArray) (Q : Nat → Prop) (hq : Q w.heap.size) : NumsAt Q .u8 (Lib.bytesWorld w 5 s) (some ⟨w.heap.size, 0, none⟩) s.size (strL s) := by
  refine ⟨strL_len s, fun x hx => wf_u8 (byt_strL s x hx), fun _ => ⟨_, 0, rfl, by rw [Lib.bytesWorld_size]; omega, hq, fun i hi => ?_⟩⟩
  rw [Nat.zero_add, Lib.bytesWorld_cell w _ s i hi]
  have h2 : s.data[i]? = some s.data[i] := Array.getElem?_eq_getElem hi
  simp [strL, List.getD, h2]

set_option maxHeartbeats 1000000 in
set_option maxRecDepth 100000 in
theorem wname_any (base wb : Nat) (v : Value) (L : List Int) (s : ByteArray) (w : World) (hW : Wr base w wb v L) (hlen : L.length + 2 + s.size ≤ 900000) :
    Calls Tryz.prog 140 #[.pointer (some ⟨wb, 0, none⟩), .string s] w fun e w' => RetWr base w wb v L (nameB s) e w' := by
  have hcv := Lib.run_convert_string_bytes (P := Tryz.prog) w 9 28 5 s Tryz.underlying9 Tryz.underlying28 Tryz.underlying5
  have bC := conv_below w s
  have hNC := hid (conv_nums w s (fun b => ¬ WM wb v b) (hW.fresh (Nat.le_refl _)))
  have hWC := hid (hW.below bC)
  replace bC := hid bC
  replace hW := hid hW
  go_enter Tryz.func140, Tryz.ntmps140
  go_wp2_with fail
  refine (wbytes_any base wb v L _ s.size _ (strL s) _ hWC.out hNC.out (byt_strL s) hlen).mono ?_
  rintro e w1 ⟨rfl, v1, hW1, hO1⟩
  have hO2 := hid ((wrN_below bC.out).trans hO1)
  replace hW1 := hid hW1
  clear hO1
  go_wp2_with fail
  go_end0
  exact ⟨rfl, v1, hW1.out, hO2.out⟩
end Go.Proofs.YtihkljfcplfldaaGreat

namespace Go.Proofs.YtihkljfcplfldaaGreat
open Go.RowKit

def entB (e : Ent) : List Int := nameB e.name ++ numsB [e.root, e.size]
def filesB (l : List Ent) : List Int := numB (l.length : Int) ++ l.flatMap entB
def snapB (s : SnapE) : List Int := nameB s.name ++ filesB s.files
def setB (x : SetE) : List Int := nameB x.name ++ filesB x.files ++ numB (x.snaps.length : Int) ++ x.snaps.flatMap snapB
def tenB (t : TenE) : List Int := numsB [t.key, t.quota, (t.sets.length : Int)] ++ t.sets.flatMap setB
def blkB (b : Blk) : List Int := numsB [b.refs, b.level, (b.kids.length : Int)] ++ numsB b.kids ++ bytesB b.bytes
def blocksB (n : Nat) (B : Nat → Blk) : List Int := (List.range n).flatMap fun i => blkB (B i)
def poolB (n : Nat) (B : Nat → Blk) (l : List TenE) : List Int := numB (n : Int) ++ blocksB n B ++ numB (l.length : Int) ++ l.flatMap tenB

theorem flat_next {α : Type} {f : α → List Int} {l : List α} {j : Nat} {x : α} (hx : l[j]? = some x) : (l.take (j + 1)).flatMap f = (l.take j).flatMap f ++ f x := by
  rw [take_next hx, List.flatMap_append]; simp
theorem flat_le {α : Type} (f : α → List Int) (l : List α) (j : Nat) : ((l.take j).flatMap f).length ≤ (l.flatMap f).length := by
  have e : l.flatMap f = (l.take j).flatMap f ++ (l.drop j).flatMap f := by rw [← List.flatMap_append, List.take_append_drop]
  rw [e, List.length_append]; omega
theorem flat_room {α : Type} {f : α → List Int} {l : List α} {j : Nat} {x : α} (hx : l[j]? = some x) : ((l.take j).flatMap f).length + (f x).length ≤ (l.flatMap f).length := by
  have := flat_le f l (j + 1)
  rw [flat_next hx, List.length_append] at this
  exact this

set_option maxHeartbeats 2000000 in
set_option maxRecDepth 100000 in
theorem wblock_any (W : World) (wb : Nat) (v : Value) (L : List Int) (K : Blk) (ka : Option Addr) (kn kc : Nat) (ba : Option Addr) (bn bc : Nat) (Q : Nat → Prop) (w : World) (hb : Below W.heap.size W w) (hW : Wr W.heap.size w wb v L)
    (hk : NumsAt Q .i64 W ka kn K.kids) (hy : NumsAt Q .u8 W ba bn K.bytes) (hr : -9223372036854775808 ≤ K.refs ∧ K.refs ≤ 9223372036854775807) (hl : -9223372036854775808 ≤ K.level ∧ K.level ≤ 9223372036854775807) (h4 : kn ≤ 4 ∧ bn ≤ 4) (hlen : L.length + (blkB K).length ≤ 900000) :
    Calls Tryz.prog 92 #[.pointer (some ⟨wb, 0, none⟩), .agg #[.int .i64 K.refs, .int .i64 K.level, .slice ka kn kc, .slice ba bn bc]] w fun e w' => RetWr W.heap.size w wb v L (blkB K) e w' := by
  have hkl := hid hk.1
  have hbl := hid hy.1
  have hlen' : Hid (L.length + 6 + 2 * kn + 2 + bn ≤ 900000) := hid (by
    have : (blkB K).length = 6 + 2 * kn + (2 + bn) := by unfold blkB; rw [List.length_append, List.length_append, numsB_len, numsB_len, bytesB_len, hkl.out, hbl.out]; rfl
    omega)
  clear hlen
  have b0 := hid (below_alloc w (.cells #[.int .i64 K.refs, .int .i64 K.level, .slice ka kn kc, .slice ba bn bc] 124))
  have s0 := hid (ws_start hb hW)
  have x0 := hid (s0.out.box #[.int .i64 K.refs, .int .i64 K.level, .slice ka kn kc, .slice ba bn bc] 124)
  replace s0 := hid (s0.out.below b0.out)
  replace hk := hid hk
  replace hy := hid hy
  clear hb hW
  go_enter Tryz.func92, Tryz.ntmps92
  go_upto_region 1 with fail
  generalize w.alloc (.cells #[.int .i64 K.refs, .int .i64 K.level, .slice ka kn kc, .slice ba bn bc] 124) = w0 at *
  have q0 := x0.out.cells.cell 0
  have q1 := x0.out.cells.cell 1
  have q2 := x0.out.cells.cell 2
  simp at q0 q1 q2
  have bA := hid (below_alloc w0 (.cells #[.int .i64 K.refs, .int .i64 K.level, .int .i64 (kn : Int)] 3))
  have hNA := hid (nums_three w0 K.refs K.level (kn : Int) hr hl (by omega) (fun b => ¬ WM wb v b) (s0.out.wr.fresh (Nat.le_refl _)))
  replace s0 := hid (s0.out.below bA.out)
  replace x0 := hid (x0.out.below bA.out)
  go_wp2_with fail
  clear q0 q1 q2
  generalize w0.alloc (.cells #[.int .i64 K.refs, .int .i64 K.level, .int .i64 (kn : Int)] 3) = wA at *
  refine (numbers_any W.heap.size wb v L _ 3 3 _ wA s0.out.wr hNA.out (by have := hlen'.out; omega)).mono ?_
  rintro e w1 ⟨rfl, v1, hW1, hO1⟩
  have s1 := hid (s0.out.step hW1 hO1)
  have x1 := hid (x0.out.step hO1)
  have hl1 : Hid ((L ++ numsB [K.refs, K.level, (kn : Int)]).length = L.length + 6) := hid (by rw [List.length_append, numsB_len]; rfl)
  clear hW1 hO1 s0 x0 hNA bA b0
  have q2 := x1.out.cells.cell 2
  simp at q2
  go_wp2_with fail
  refine (numbers_any W.heap.size wb v1 _ ka kn kc K.kids w1 s1.out.wr (s1.out.nums hk.out) (by have := hlen'.out; have := hl1.out; omega)).mono ?_
  rintro e w2 ⟨rfl, v2, hW2, hO2⟩
  have s2 := hid (s1.out.step hW2 hO2)
  have x2 := hid (x1.out.step hO2)
  have hl2 : Hid ((L ++ numsB [K.refs, K.level, (kn : Int)] ++ numsB K.kids).length = L.length + 6 + 2 * kn) := hid (by rw [List.length_append, hl1.out, numsB_len, hkl.out])
  clear hW2 hO2 s1 x1 q2
  have q3 := x2.out.cells.cell 3
  simp at q3
  go_wp2_with fail
  refine (wbytes_any W.heap.size wb v2 _ ba bn bc K.bytes w2 s2.out.wr (s2.out.nums hy.out) (fun z hz => by have := bounds_u8 (hy.out.2.1 z hz); omega) (by have := hlen'.out; have := hl2.out; omega)).mono ?_
  rintro e w3 ⟨rfl, v3, hW3, hO3⟩
  have s3 := hid (s2.out.step hW3 hO3)
  have hR : Hid (RetWr W.heap.size w wb v L (blkB K) (.returned (.tuple #[])) w3) := hid (WS.ret (by
    have := s3.out
    unfold blkB
    rw [hkl.out, ← List.append_assoc, ← List.append_assoc]
    exact this))
  clear hW3 hO3 s2 s3 x2 q3
  go_wp2_with fail
  go_end0
  exact hR.out

set_option maxHeartbeats 2000000 in
set_option maxRecDepth 100000 in
theorem wfiles_any (W : World) (wb : Nat) (v : Value) (L : List Int) (Q : Nat → Prop) (fa : Option Addr) (fn fc : Nat) (l : List Ent) (w : World) (hb : Below W.heap.size W w) (hW : Wr W.heap.size w wb v L)
    (hE : EntsAt Q W fa fn l) (h6 : fn ≤ 6) (hlen : L.length + (filesB l).length ≤ 900000) :
    Calls Tryz.prog 141 #[.pointer (some ⟨wb, 0, none⟩), .slice fa fn fc] w fun e w' => RetWr W.heap.size w wb v L (filesB l) e w' := by
  have hll := hid hE.1
  have hlen' : Hid (L.length + 2 + (l.flatMap entB).length ≤ 900000) := hid (by unfold filesB at hlen; rw [List.length_append, numB_len] at hlen; omega)
  clear hlen
  have b0 := hid (below_alloc w (.cells #[.int .i64 (fn : Int)] 3))
  have s0 := hid (ws_start hb hW)
  have hNA := hid (nums_one w (fn : Int) (by omega) (fun b => ¬ WM wb v b) (s0.out.wr.fresh (Nat.le_refl _)))
  replace s0 := hid (s0.out.below b0.out)
  replace hE := hid hE
  clear hb hW
  go_enter Tryz.func141, Tryz.ntmps141
  go_wp2_with fail
  generalize w.alloc (.cells #[.int .i64 (fn : Int)] 3) = w0 at *
  refine (numbers_any W.heap.size wb v L _ 1 1 _ w0 s0.out.wr hNA.out (by have := hlen'.out; omega)).mono ?_
  rintro e w1 ⟨rfl, v1, hW1, hO1⟩
  rw [numsB_one] at hW1
  have s1 := hid (s0.out.step hW1 hO1)
  clear hW1 hO1 s0 hNA b0
  go_wp2_with fail
  go_loopw [13] (fun u wr => ∃ (j : Nat) (v' : Value), j ≤ fn ∧ u = .int .i64 j ∧ WS W w wr wb v v' (L ++ numB (fn : Int) ++ (l.take j).flatMap entB)) (fun u _ => fn - (Go.RowKit.intOf u).toNat)
  case atStart => exact ⟨0, v1, Nat.zero_le _, rfl, by simpa using s1.out⟩
  case round =>
    clear s1
    obtain ⟨j, v', hj, rfl, hS⟩ := hrel
    by_cases hlt : j < fn
    · have hjl : j < l.length := by rw [hll.out]; exact hlt
      have hE' := hE.out.below hS.b
      obtain ⟨eb, off, rfl⟩ : ∃ b off, fa = some ⟨b, off, none⟩ := by
        obtain ⟨b, off, e, _⟩ := hE'.2.2 (by omega)
        exact ⟨b, off, e⟩
      have hx : l[j]? = some (l.getD j Ent.zero) := by rw [List.getElem?_eq_getElem hjl]; simp [List.getD, hjl]
      have hA := hE'.ent hlt
      have c0 := hA.c0
      have c1 := hA.c1
      have c2 := hA.c2
      have hok := hE.out.2.1 _ (List.mem_of_getElem? hx)
      have hroom := hid (flat_room (f := entB) hx)
      have hnext := hid (flat_next (f := entB) hx)
      have hel : Hid ((entB (l.getD j Ent.zero)).length = 2 + (l.getD j Ent.zero).name.size + 4) := hid (by unfold entB; rw [List.length_append, nameB_len, numsB_len]; rfl)
      clear hA hE' hjl hx
      generalize l.getD j Ent.zero = x at *
      have hLl : Hid ((L ++ numB (fn : Int) ++ (l.take j).flatMap entB).length = L.length + 2 + ((l.take j).flatMap entB).length) := hid (by rw [List.length_append, List.length_append, numB_len])
      have ba := hid (below_alloc wr (.cells #[.string x.name, .int .i64 x.root, .int .i64 x.size] 85))
      have x0 := hid (hS.box #[.string x.name, .int .i64 x.root, .int .i64 x.size] 85)
      have s2 := hid (hS.below ba.out)
      replace hok := hid hok
      clear hS
      go_upto_region 4 with fail
      clear c0 c1 c2 ba
      generalize wr.alloc (.cells #[.string x.name, .int .i64 x.root, .int .i64 x.size] 85) = w5 at *
      have q0 := x0.out.cells.cell 0
      simp at q0
      go_wp2_with fail
      refine (wname_any W.heap.size wb v' _ x.name w5 s2.out.wr (by have := hlen'.out; have := hroom.out; have := hel.out; have := hLl.out; omega)).mono ?_
      rintro e w6 ⟨rfl, v6, hW6, hO6⟩
      have s6 := hid (s2.out.step hW6 hO6)
      have x6 := hid (x0.out.step hO6)
      clear hW6 hO6 s2 x0 q0
      have q1 := x6.out.cells.cell 1
      have q2 := x6.out.cells.cell 2
      simp at q1 q2
      have bA := hid (below_alloc w6 (.cells #[.int .i64 x.root, .int .i64 x.size] 3))
      have hNA := hid (nums_pair w6 x.root x.size hok.out.2.1 hok.out.2.2 (fun b => ¬ WM wb v6 b) (s6.out.wr.fresh (Nat.le_refl _)))
      replace s6 := hid (s6.out.below bA.out)
      go_wp2_with fail
      clear q1 q2 x6 bA
      generalize w6.alloc (.cells #[.int .i64 x.root, .int .i64 x.size] 3) = wA at *
      refine (numbers_any W.heap.size wb v6 _ _ 2 2 _ wA s6.out.wr hNA.out (by rw [List.length_append, nameB_len]; have := hlen'.out; have := hroom.out; have := hel.out; have := hLl.out; omega)).mono ?_
      rintro e w7 ⟨rfl, v7, hW7, hO7⟩
      have s7 : Hid (WS W w w7 wb v v7 (L ++ numB (fn : Int) ++ (l.take (j + 1)).flatMap entB)) := hid (by
        have := s6.out.step hW7 hO7
        rw [hnext.out]
        unfold entB
        rw [List.append_assoc] at this
        rw [← List.append_assoc (L ++ numB (fn : Int))]
        exact this)
      clear hW7 hO7 s6 hNA
      go_wp2_with fail
      go_roundw
      case rel => exact ⟨j + 1, v7, by omega, by go_num, s7.out⟩
      case measure => simp [Go.RowKit.intOf]; omega
    · obtain rfl : j = fn := by omega
      have hR : Hid (RetWr W.heap.size w wb v L (filesB l) (.returned (.tuple #[])) wr) := hid (WS.ret (v := v') (by
        rw [List.take_of_length_le (by rw [hll.out]; exact Nat.le_refl _)] at hS
        unfold filesB
        rw [hll.out, ← List.append_assoc]
        exact hS))
      clear hS
      go_wp2_with fail
      go_end0
      exact hR.out
end Go.Proofs.YtihkljfcplfldaaGreat

namespace Go.Proofs.YtihkljfcplfldaaGreat
open Go.RowKit

theorem filesB_len (l : List Ent) : (filesB l).length = 2 + (l.flatMap entB).length := by unfold filesB; rw [List.length_append, numB_len]
theorem snapB_len (s : SnapE) : (snapB s).length = 2 + s.name.size + (filesB s.files).length := by unfold snapB; rw [List.length_append, nameB_len]

set_option maxHeartbeats 2000000 in
set_option maxRecDepth 100000 in
theorem wset_any (W : World) (wb : Nat) (v : Value) (L : List Int) (Q : Nat → Prop) (u : SetV) (x : SetE) (w : World) (hb : Below W.heap.size W w) (hW : Wr W.heap.size w wb v L)
    (hX : SetAt Q W u x) (h6 : x.files.length ≤ 6) (h3 : x.snaps.length ≤ 3) (hs6 : ∀ s ∈ x.snaps, s.files.length ≤ 6) (hlen : L.length + (setB x).length ≤ 900000) :
    Calls Tryz.prog 117 #[.pointer (some ⟨wb, 0, none⟩), u.val] w fun e w' => RetWr W.heap.size w wb v L (setB x) e w' := by
  have hlen' : Hid (L.length + (2 + x.name.size) + (filesB x.files).length + 2 + (x.snaps.flatMap snapB).length ≤ 900000) := hid (by
    unfold setB at hlen; rw [List.length_append, List.length_append, List.length_append, nameB_len, numB_len] at hlen; omega)
  clear hlen
  obtain ⟨vn, fa, fn, fc, sa, sn, sc⟩ := u
  obtain ⟨hnm, hsm, hFi, hSn, hcap⟩ := hX
  simp only at hnm hFi hSn
  subst hnm
  unfold SetV.val
  simp only
  have hfl := hid hFi.1
  have hsl := hid hSn.1
  have hfn : fn ≤ 6 := by rw [← hFi.1]; exact h6
  have hsn : sn ≤ 3 := by rw [← hSn.1]; exact h3
  have b0 := hid (below_alloc w (.cells #[.string x.name, .slice fa fn fc, .slice sa sn sc] 47))
  have s0 := hid (ws_start hb hW)
  have x0 := hid (s0.out.box #[.string x.name, .slice fa fn fc, .slice sa sn sc] 47)
  replace s0 := hid (s0.out.below b0.out)
  replace hFi := hid hFi
  replace hSn := hid hSn
  replace hs6 := hid hs6
  clear hb hW hcap h6 h3
  go_enter Tryz.func117, Tryz.ntmps117
  go_upto_region 1 with fail
  generalize w.alloc (.cells #[.string x.name, .slice fa fn fc, .slice sa sn sc] 47) = w0 at *
  clear b0
  have q0 := x0.out.cells.cell 0
  simp at q0
  go_wp2_with fail
  refine (wname_any W.heap.size wb v L x.name w0 s0.out.wr (by have := hlen'.out; omega)).mono ?_
  rintro e w1 ⟨rfl, v1, hW1, hO1⟩
  have s1 := hid (s0.out.step hW1 hO1)
  have x1 := hid (x0.out.step hO1)
  have hl1 : Hid ((L ++ nameB x.name).length = L.length + (2 + x.name.size)) := hid (by rw [List.length_append, nameB_len])
  clear hW1 hO1 s0 x0 q0
  have q1 := x1.out.cells.cell 1
  simp at q1
  go_wp2_with fail
  refine (wfiles_any W wb v1 _ Q fa fn fc x.files w1 s1.out.b s1.out.wr hFi.out hfn (by have := hlen'.out; have := hl1.out; omega)).mono ?_
  rintro e w2 ⟨rfl, v2, hW2, hO2⟩
  have s2 := hid (s1.out.step hW2 hO2)
  have x2 := hid (x1.out.step hO2)
  have hl2 : Hid ((L ++ nameB x.name ++ filesB x.files).length = L.length + (2 + x.name.size) + (filesB x.files).length) := hid (by rw [List.length_append, hl1.out])
  clear hW2 hO2 s1 x1 q1
  have q2 := x2.out.cells.cell 2
  simp at q2
  have bA := hid (below_alloc w2 (.cells #[.int .i64 (sn : Int)] 3))
  have hNA := hid (nums_one w2 (sn : Int) (by omega) (fun b => ¬ WM wb v2 b) (s2.out.wr.fresh (Nat.le_refl _)))
  replace s2 := hid (s2.out.below bA.out)
  replace x2 := hid (x2.out.below bA.out)
  go_wp2_with fail
  clear q2 bA
  generalize w2.alloc (.cells #[.int .i64 (sn : Int)] 3) = wA at *
  refine (numbers_any W.heap.size wb v2 _ _ 1 1 _ wA s2.out.wr hNA.out (by have := hlen'.out; have := hl2.out; omega)).mono ?_
  rintro e w3 ⟨rfl, v3, hW3, hO3⟩
  rw [numsB_one] at hW3
  have s3 := hid (s2.out.step hW3 hO3)
  have x3 := hid (x2.out.step hO3)
  have hl3 : Hid ((L ++ nameB x.name ++ filesB x.files ++ numB (sn : Int)).length = L.length + (2 + x.name.size) + (filesB x.files).length + 2) := hid (by rw [List.length_append, hl2.out, numB_len])
  clear hW3 hO3 s2 x2 hNA
  have q2 := x3.out.cells.cell 2
  simp at q2
  generalize hHead : L ++ nameB x.name ++ filesB x.files ++ numB (sn : Int) = Hd at *
  replace hHead := hid hHead
  go_wp2_with fail
  clear q2 x3
  go_loopw [23] (fun u wr => ∃ (j : Nat) (v' : Value), j ≤ sn ∧ u = .int .i64 j ∧ WS W w wr wb v v' (Hd ++ (x.snaps.take j).flatMap snapB)) (fun u _ => sn - (Go.RowKit.intOf u).toNat)
  case atStart => exact ⟨0, v3, Nat.zero_le _, rfl, by simpa using s3.out⟩
  case round =>
    clear s3
    obtain ⟨j, v', hj, rfl, hS⟩ := hrel
    by_cases hlt : j < sn
    · have hjl : j < x.snaps.length := by rw [hsl.out]; exact hlt
      have hE' := hSn.out.below hS.b
      obtain ⟨eb, off, rfl⟩ : ∃ b off, sa = some ⟨b, off, none⟩ := by
        obtain ⟨b, off, e, _⟩ := hE'.2 (by omega)
        exact ⟨b, off, e⟩
      have hx : x.snaps[j]? = some (x.snaps.getD j SnapE.zero) := by rw [List.getElem?_eq_getElem hjl]; simp [List.getD, hjl]
      obtain ⟨ga, gn, gc, hA⟩ := hSn.out.snap hlt
      have c0 := (hA.below hS.b).c0
      have c1 := (hA.below hS.b).c1
      have hGf := hid hA.files
      have hg6 : gn ≤ 6 := by rw [← hA.files.1]; exact hs6.out _ (List.mem_of_getElem? hx)
      have hroom := hid (flat_room (f := snapB) hx)
      have hnext := hid (flat_next (f := snapB) hx)
      clear hA hE' hjl hx
      generalize x.snaps.getD j SnapE.zero = y at *
      have hyl := hid (snapB_len y)
      have hLl : Hid ((Hd ++ (x.snaps.take j).flatMap snapB).length = Hd.length + ((x.snaps.take j).flatMap snapB).length) := hid List.length_append
      have ba := hid (below_alloc wr (.cells #[.string y.name, .slice ga gn gc] 88))
      have x0 := hid (hS.box #[.string y.name, .slice ga gn gc] 88)
      have s2 := hid (hS.below ba.out)
      clear hS
      go_upto_region 7 with fail
      clear c0 c1 ba
      generalize wr.alloc (.cells #[.string y.name, .slice ga gn gc] 88) = w5 at *
      have q0 := x0.out.cells.cell 0
      simp at q0
      go_wp2_with fail
      refine (wname_any W.heap.size wb v' _ y.name w5 s2.out.wr (by have := hlen'.out; have := hroom.out; have := hyl.out; have := hLl.out; have := hl3.out; omega)).mono ?_
      rintro e w6 ⟨rfl, v6, hW6, hO6⟩
      have s6 := hid (s2.out.step hW6 hO6)
      have x6 := hid (x0.out.step hO6)
      clear hW6 hO6 s2 x0 q0
      have q1 := x6.out.cells.cell 1
      simp at q1
      go_wp2_with fail
      refine (wfiles_any W wb v6 _ Q ga gn gc y.files w6 s6.out.b s6.out.wr hGf.out hg6 (by rw [List.length_append, nameB_len]; have := hlen'.out; have := hroom.out; have := hyl.out; have := hLl.out; have := hl3.out; omega)).mono ?_
      rintro e w7 ⟨rfl, v7, hW7, hO7⟩
      have s7 : Hid (WS W w w7 wb v v7 (Hd ++ (x.snaps.take (j + 1)).flatMap snapB)) := hid (by
        have := s6.out.step hW7 hO7
        rw [hnext.out]
        unfold snapB
        rw [List.append_assoc] at this
        rw [← List.append_assoc Hd]
        exact this)
      clear hW7 hO7 s6 x6 q1
      go_wp2_with fail
      go_roundw
      case rel => exact ⟨j + 1, v7, by omega, by go_num, s7.out⟩
      case measure => simp [Go.RowKit.intOf]; omega
    · obtain rfl : j = sn := by omega
      have hR : Hid (RetWr W.heap.size w wb v L (setB x) (.returned (.tuple #[])) wr) := hid (WS.ret (v := v') (by
        rw [List.take_of_length_le (by rw [hsl.out]; exact Nat.le_refl _), ← hHead.out] at hS
        unfold setB
        rw [hsl.out]
        simpa [List.append_assoc] using hS))
      clear hS
      go_wp2_with fail
      go_end0
      exact hR.out

set_option maxHeartbeats 2000000 in
set_option maxRecDepth 100000 in
theorem wtenant_any (W : World) (wb : Nat) (v : Value) (L : List Int) (Q : Nat → Prop) (t : TenE) (sa : Option Addr) (sn sc : Nat) (w : World) (hb : Below W.heap.size W w) (hW : Wr W.heap.size w wb v L)
    (hT : TenAt Q W t sa sn sc) (h3 : t.sets.length ≤ 3) (hsh : ∀ x ∈ t.sets, Shape x) (hlen : L.length + (tenB t).length ≤ 900000) :
    Calls Tryz.prog 93 #[.pointer (some ⟨wb, 0, none⟩), t.val sa sn sc] w fun e w' => RetWr W.heap.size w wb v L (tenB t) e w' := by
  have hlen' : Hid (L.length + 6 + (t.sets.flatMap setB).length ≤ 900000) := hid (by
    have e : (tenB t).length = 6 + (t.sets.flatMap setB).length := by unfold tenB; rw [List.length_append, numsB_len]; rfl
    omega)
  clear hlen
  obtain ⟨hS0, hkb, hqb, hcap⟩ := hT
  have hsl := hid hS0.1
  have hsn : sn ≤ 3 := by rw [← hS0.1]; exact h3
  unfold TenE.val
  have b0 := hid (below_alloc w (.cells #[.int .i64 t.key, .int .i64 t.quota, .slice sa sn sc] 42))
  have s0 := hid (ws_start hb hW)
  have x0 := hid (s0.out.box #[.int .i64 t.key, .int .i64 t.quota, .slice sa sn sc] 42)
  replace s0 := hid (s0.out.below b0.out)
  replace hS0 := hid hS0
  replace hsh := hid hsh
  clear hb hW hcap h3
  go_enter Tryz.func93, Tryz.ntmps93
  go_upto_region 1 with fail
  generalize w.alloc (.cells #[.int .i64 t.key, .int .i64 t.quota, .slice sa sn sc] 42) = w0 at *
  clear b0
  have q0 := x0.out.cells.cell 0
  have q1 := x0.out.cells.cell 1
  have q2 := x0.out.cells.cell 2
  simp at q0 q1 q2
  have bA := hid (below_alloc w0 (.cells #[.int .i64 t.key, .int .i64 t.quota, .int .i64 (sn : Int)] 3))
  have hNA := hid (nums_three w0 t.key t.quota (sn : Int) hkb hqb (by omega) (fun b => ¬ WM wb v b) (s0.out.wr.fresh (Nat.le_refl _)))
  replace s0 := hid (s0.out.below bA.out)
  replace x0 := hid (x0.out.below bA.out)
  go_wp2_with fail
  clear q0 q1 q2 bA
  generalize w0.alloc (.cells #[.int .i64 t.key, .int .i64 t.quota, .int .i64 (sn : Int)] 3) = wA at *
  refine (numbers_any W.heap.size wb v L _ 3 3 _ wA s0.out.wr hNA.out (by have := hlen'.out; omega)).mono ?_
  rintro e w1 ⟨rfl, v1, hW1, hO1⟩
  have s1 := hid (s0.out.step hW1 hO1)
  have x1 := hid (x0.out.step hO1)
  have hl1 : Hid ((L ++ numsB [t.key, t.quota, (sn : Int)]).length = L.length + 6) := hid (by rw [List.length_append, numsB_len]; rfl)
  clear hW1 hO1 s0 x0 hNA
  have q2 := x1.out.cells.cell 2
  simp at q2
  generalize hHead : L ++ numsB [t.key, t.quota, (sn : Int)] = Hd at *
  replace hHead := hid hHead
  go_wp2_with fail
  clear q2 x1
  go_loopw [19] (fun u wr => ∃ (j : Nat) (v' : Value), j ≤ sn ∧ u = .int .i64 j ∧ WS W w wr wb v v' (Hd ++ (t.sets.take j).flatMap setB)) (fun u _ => sn - (Go.RowKit.intOf u).toNat)
  case atStart => exact ⟨0, v1, Nat.zero_le _, rfl, by simpa using s1.out⟩
  case round =>
    clear s1
    obtain ⟨j, v', hj, rfl, hS⟩ := hrel
    by_cases hlt : j < sn
    · have hjl : j < t.sets.length := by rw [hsl.out]; exact hlt
      obtain ⟨eb, off, rfl⟩ : ∃ b off, sa = some ⟨b, off, none⟩ := by
        obtain ⟨b, off, e, _⟩ := hS0.out.2 (by omega)
        exact ⟨b, off, e⟩
      have hx : t.sets[j]? = some (t.sets.getD j SetE.zero) := by rw [List.getElem?_eq_getElem hjl]; simp [List.getD, hjl]
      obtain ⟨u, hA⟩ := hS0.out.set hlt
      have c0 := (hA.below hS.b).c0
      have c1 := (hA.below hS.b).c1
      have c2 := (hA.below hS.b).c2
      have hXa := hid hA.ok
      have hShx := hid (hsh.out _ (List.mem_of_getElem? hx))
      have hroom := hid (flat_room (f := setB) hx)
      have hnext := hid (flat_next (f := setB) hx)
      clear hA hjl hx
      generalize t.sets.getD j SetE.zero = y at *
      have hLl : Hid ((Hd ++ (t.sets.take j).flatMap setB).length = Hd.length + ((t.sets.take j).flatMap setB).length) := hid List.length_append
      have ba := hid (below_alloc wr (.cells #[.string u.name, .slice u.fa u.fn u.fc, .slice u.sa u.sn u.sc] 47))
      have x0 := hid (hS.box #[.string u.name, .slice u.fa u.fn u.fc, .slice u.sa u.sn u.sc] 47)
      have s2 := hid (hS.below ba.out)
      clear hS
      go_upto_region 5 with fail
      clear c0 c1 c2 ba
      generalize wr.alloc (.cells #[.string u.name, .slice u.fa u.fn u.fc, .slice u.sa u.sn u.sc] 47) = w5 at *
      have q0 := x0.out.cells.cell 0
      have q1 := x0.out.cells.cell 1
      have q2 := x0.out.cells.cell 2
      simp at q0 q1 q2
      go_wp2_with fail
      refine (wset_any W wb v' _ Q u y w5 s2.out.b s2.out.wr hXa.out hShx.out.few hShx.out.fewS (fun s hs => (hShx.out.filesS s hs).1) (by have := hlen'.out; have := hroom.out; have := hLl.out; have := hl1.out; omega)).mono ?_
      rintro e w7 ⟨rfl, v7, hW7, hO7⟩
      have s7 : Hid (WS W w w7 wb v v7 (Hd ++ (t.sets.take (j + 1)).flatMap setB)) := hid (by
        have := s2.out.step hW7 hO7
        rw [hnext.out, ← List.append_assoc Hd]
        exact this)
      clear hW7 hO7 s2 x0 q0 q1 q2
      go_wp2_with fail
      go_roundw
      case rel => exact ⟨j + 1, v7, by omega, by go_num, s7.out⟩
      case measure => simp [Go.RowKit.intOf]; omega
    · obtain rfl : j = sn := by omega
      have hR : Hid (RetWr W.heap.size w wb v L (tenB t) (.returned (.tuple #[])) wr) := hid (WS.ret (v := v') (by
        rw [List.take_of_length_le (by rw [hsl.out]; exact Nat.le_refl _), ← hHead.out] at hS
        unfold tenB
        rw [hsl.out, ← List.append_assoc]
        exact hS))
      clear hS
      go_wp2_with fail
      go_end0
      exact hR.out
end Go.Proofs.YtihkljfcplfldaaGreat
