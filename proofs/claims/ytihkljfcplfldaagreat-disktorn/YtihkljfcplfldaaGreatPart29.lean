/-
  RdC in one text. Nothing here is trusted.
-/
import Derived.Test.YtihkljfcplfldaaGreatPart26
import Derived.Test.YtihkljfcplfldaaGreatPart27
import Derived.Test.YtihkljfcplfldaaGreatPart28
set_option linter.unusedVariables false
namespace Go.Proofs.YtihkljfcplfldaaGreat
open Go.RowKit

theorem Tryz.infoX : (Tryz.prog.info? 47).map (fun i => (i.zero, i.size, i.bytes)) = some (some (.agg #[.string ⟨#[]⟩, .slice none 0 0, .slice none 0 0]), 3, 64) := by kernel_rfl
theorem Tryz.infoT : (Tryz.prog.info? 42).map (fun i => (i.zero, i.size, i.bytes)) = some (some (.agg #[.int .i64 0, .int .i64 0, .slice none 0 0]), 3, 40) := by kernel_rfl

theorem RetRx.mono {α : Type} {H : Nat} {w : World} {rb : Nat} {p : Option (α × List Int)} {V V' : α → Value → World → Prop} {e : Ending} {w' : World} (h : RetRx H w rb p V e w') (hv : ∀ x v w', V x v w' → V' x v w') : RetRx H w rb p V' e w' := by
  rcases h with ⟨x, l, v, h1, h2, h3, h4⟩ | h
  · exact .inl ⟨x, l, v, h1, h2, hv _ _ _ h3, h4⟩
  · exact .inr h

def intCells (x : Int) : List Value := [.int .i64 x]
def intAt (_ : Nat → Prop) (_ : World) (x : Int) : Prop := 0 ≤ x ∧ x < 65536
theorem intAt_ok : AtOk intAt := ⟨fun h _ _ => h, fun h _ => h⟩
theorem intCells_one (x : Int) : ∀ u ∈ intCells x, u.oneCell' = true := by intro u hu; simp [intCells] at hu; subst hu; rfl
def entAt (_ : Nat → Prop) (_ : World) (x : Ent) : Prop := x.name.size < 65536 ∧ (0 ≤ x.root ∧ x.root < 65536) ∧ (0 ≤ x.size ∧ x.size < 65536)
theorem entAt_ok : AtOk entAt := ⟨fun h _ _ => h, fun h _ => h⟩
theorem snapAt_ok : AtOk SnapM.At := ⟨fun h o hm => o.snap h hm, fun h hq => ⟨h.files.weaken hq, h.caps, h.small⟩⟩
/-- a block that was read -/
structure BlkM where
  b : Blk
  ka : Option Addr
  kn : Nat
  kc : Nat
  ba : Option Addr
  bn : Nat
  bc : Nat
def BlkM.cells (m : BlkM) : List Value := [.int .i64 m.b.refs, .int .i64 m.b.level, .slice m.ka m.kn m.kc, .slice m.ba m.bn m.bc]
theorem BlkM.cells_one (m : BlkM) : ∀ u ∈ m.cells, u.oneCell' = true := by
  intro u hu
  simp only [BlkM.cells, List.mem_cons, List.not_mem_nil, or_false] at hu
  rcases hu with rfl | rfl | rfl | rfl <;> rfl
structure BlkM.At (Q : Nat → Prop) (w : World) (m : BlkM) : Prop where
  kids : NumsAt Q .i64 w m.ka m.kn m.b.kids
  bytes : NumsAt Q .u8 w m.ba m.bn m.b.bytes
  rb : 0 ≤ m.b.refs ∧ m.b.refs < 65536
  lb : 0 ≤ m.b.level ∧ m.b.level < 65536
  caps : m.kn ≤ m.kc ∧ m.bn ≤ m.bc
theorem blkAt_ok : AtOk BlkM.At := ⟨fun h o hm => ⟨o.nums h.kids hm, o.nums h.bytes hm, h.rb, h.lb, h.caps⟩, fun h hq => ⟨h.kids.weaken hq, h.bytes.weaken hq, h.rb, h.lb, h.caps⟩⟩
/-- a set that was read -/
structure SetM where
  x : SetE
  v : SetV
def SetM.cells (m : SetM) : List Value := [.string m.v.name, .slice m.v.fa m.v.fn m.v.fc, .slice m.v.sa m.v.sn m.v.sc]
theorem SetM.cells_one (m : SetM) : ∀ u ∈ m.cells, u.oneCell' = true := by
  intro u hu
  simp only [SetM.cells, List.mem_cons, List.not_mem_nil, or_false] at hu
  rcases hu with rfl | rfl | rfl <;> rfl
def SetM.At (Q : Nat → Prop) (w : World) (m : SetM) : Prop := SetAt Q w m.v m.x
theorem Only.snaps {M : Nat → Prop} {a b : World} (h : Only M a b) {Q : Nat → Prop} {x : Option Addr} {n : Nat} {l : List SnapE} (he : SnapsAt Q a x n l) (hm : ∀ k, Q k → ¬ M k) : SnapsAt Q b x n l := by
  refine ⟨he.1, fun hn => ?_⟩
  obtain ⟨g, off, rfl, hlt, hq, hc⟩ := he.2 hn
  refine ⟨g, off, rfl, Nat.lt_of_lt_of_le hlt h.size, hq, fun i hi => ?_⟩
  obtain ⟨fa, fn, fc, hs⟩ := hc i hi
  exact ⟨fa, fn, fc, (h.cell (p := ⟨g, off + i * 2, none⟩) hlt (hm g hq)).trans hs.c0, (h.cell (p := ⟨g, off + i * 2 + 1, none⟩) hlt (hm g hq)).trans hs.c1, h.ents hs.files hm, hs.small, hs.caps⟩
theorem Only.set {M : Nat → Prop} {a b : World} (h : Only M a b) {Q : Nat → Prop} {v : SetV} {x : SetE} (he : SetAt Q a v x) (hm : ∀ k, Q k → ¬ M k) : SetAt Q b v x := ⟨he.name, he.small, h.ents he.files hm, h.snaps he.snaps hm, he.caps⟩
theorem Only.sets {M : Nat → Prop} {a b : World} (h : Only M a b) {Q : Nat → Prop} {x : Option Addr} {n : Nat} {l : List SetE} (he : SetsAt Q a x n l) (hm : ∀ k, Q k → ¬ M k) : SetsAt Q b x n l := by
  refine ⟨he.1, fun hn => ?_⟩
  obtain ⟨g, off, rfl, hlt, hq, hc⟩ := he.2 hn
  refine ⟨g, off, rfl, Nat.lt_of_lt_of_le hlt h.size, hq, fun i hi => ?_⟩
  obtain ⟨v, hs⟩ := hc i hi
  exact ⟨v, (h.cell (p := ⟨g, off + i * 3, none⟩) hlt (hm g hq)).trans hs.c0, (h.cell (p := ⟨g, off + i * 3 + 1, none⟩) hlt (hm g hq)).trans hs.c1, (h.cell (p := ⟨g, off + i * 3 + 2, none⟩) hlt (hm g hq)).trans hs.c2, h.set hs.ok hm⟩
theorem setAt_ok : AtOk SetM.At := ⟨fun h o hm => o.set h hm, fun h hq => SetAt.weaken h hq⟩
/-- a tenant that was read -/
structure TenM where
  t : TenE
  sa : Option Addr
  sn : Nat
  sc : Nat
def TenM.cells (m : TenM) : List Value := [.int .i64 m.t.key, .int .i64 m.t.quota, .slice m.sa m.sn m.sc]
theorem TenM.cells_one (m : TenM) : ∀ u ∈ m.cells, u.oneCell' = true := by
  intro u hu
  simp only [TenM.cells, List.mem_cons, List.not_mem_nil, or_false] at hu
  rcases hu with rfl | rfl | rfl <;> rfl
structure TenM.At (Q : Nat → Prop) (w : World) (m : TenM) : Prop where
  sets : SetsAt Q w m.sa m.sn m.t.sets
  kb : 0 ≤ m.t.key ∧ m.t.key < 65536
  qb : 0 ≤ m.t.quota ∧ m.t.quota < 65536
  caps : m.sn ≤ m.sc
theorem tenAt_ok : AtOk TenM.At := ⟨fun h o hm => ⟨o.sets h.sets hm, h.kb, h.qb, h.caps⟩, fun h hq => ⟨h.sets.weaken hq, h.kb, h.qb, h.caps⟩⟩

def entP (l : List Int) : Option (Ent × List Int) :=
  match nameP l with
  | none => none
  | some (s, l1) =>
    match numP l1 with
    | none => none
    | some (r, l2) =>
      match numP l2 with
      | none => none
      | some (z, l3) => some (⟨s, r, z⟩, l3)
def filesP (l : List Int) : Option (List Ent × List Int) :=
  match numP l with
  | none => none
  | some (n, l1) => listP entP n.toNat l1
def snapP (l : List Int) : Option (SnapE × List Int) :=
  match nameP l with
  | none => none
  | some (s, l1) =>
    match filesP l1 with
    | none => none
    | some (fs, l2) => some (⟨s, fs⟩, l2)
def snapsP (l : List Int) : Option (List SnapE × List Int) :=
  match numP l with
  | none => none
  | some (n, l1) => listP snapP n.toNat l1
def setP (l : List Int) : Option (SetE × List Int) :=
  match nameP l with
  | none => none
  | some (s, l1) =>
    match filesP l1 with
    | none => none
    | some (fs, l2) =>
      match snapsP l2 with
      | none => none
      | some (ss, l3) => some (⟨s, fs, ss⟩, l3)
def setsP (l : List Int) : Option (List SetE × List Int) :=
  match numP l with
  | none => none
  | some (n, l1) => listP setP n.toNat l1
def tenP (l : List Int) : Option (TenE × List Int) :=
  match numP l with
  | none => none
  | some (k, l1) =>
    match numP l1 with
    | none => none
    | some (q, l2) =>
      match setsP l2 with
      | none => none
      | some (ss, l3) => some (⟨k, q, ss⟩, l3)
def kidsP (l : List Int) : Option (List Int × List Int) :=
  match numP l with
  | none => none
  | some (n, l1) => listP numP n.toNat l1
def blkP (l : List Int) : Option (Blk × List Int) :=
  match numP l with
  | none => none
  | some (r, l1) =>
    match numP l1 with
    | none => none
    | some (v, l2) =>
      match kidsP l2 with
      | none => none
      | some (ks, l3) =>
        match bytesP l3 with
        | none => none
        | some (b, l4) => some (⟨r, v, ks, b⟩, l4)

theorem numberM_any (H rb : Nat) (l : List Int) (w : World) (hR : RdL H w rb l) :
    Calls Tryz.prog 161 #[.pointer (some ⟨rb, 0, none⟩)] w fun e w' => RetRx H w rb (numP l) (fun x v w' => ∃ m : Int, id m = x ∧ v = .int .i64 m ∧ intAt (fun b => w.heap.size ≤ b) w' m) e w' :=
  (number_any H rb l w hR hR.byt).mono fun e w' h => h.mono fun x v w' ⟨h1, h2⟩ => ⟨x, rfl, h1, h2⟩

theorem Out.cells {rb : Nat} {w w' : World} (o : Out rb w w') {g : Nat} {cs : Array Value} {t : TypeId} (h : CellsAt w g cs t) (hg : g ≠ rb) : CellsAt w' g cs t := by
  unfold CellsAt at *
  rw [o.block g (CellsAt.lt h) hg]
  exact h

set_option maxHeartbeats 2000000 in
set_option maxRecDepth 100000 in
theorem rlistI_any (H rb n : Nat) (l : List Int) (w : World) (hR : RdL H w rb l) (hn : n < 65536) :
    Calls Tryz.prog 192 #[.int .i64 n, .func (.func 161) #[.pointer (some ⟨rb, 0, none⟩)] #[]] w fun e w' => RetRx H w rb (listP numP n l) (fun xs v w' => ∃ ms : List Int, ms.map id = xs ∧ ListV intCells intAt w.heap.size 3 1 ms v w') e w' := by
  obtain ⟨i0, hi, hz0, hz1, hz2⟩ := info_parts Tryz.infoInt
  have hlt := hid hR.lt
  replace hR := hid hR
  go_enter Tryz.func192, Tryz.ntmps192
  go_wp2_with fail
  go_loopw [5, 7] (fun u v wr => ∃ (j : Nat) (ms : List Int) (r : List Int), j ≤ n ∧ v = .int .i64 j ∧ LI intCells intAt H w wr rb 3 1 u ms r ∧ listP numP j l = some (ms.map id, r)) (fun _ v _ => n - (Go.RowKit.intOf v).toNat)
  case atStart => exact ⟨0, [], l, Nat.zero_le _, rfl, LI.start hR.out, rfl⟩
  case round =>
    clear hR
    obtain ⟨j, ms, r, hj, rfl, hL, hP⟩ := hrel
    have hml := hid (show ms.length = j by have := listP_len hP; simpa using this)
    obtain ⟨ua, uc, hu⟩ := hL.val
    rw [hml.out] at hu
    subst hu
    replace hP := hid hP
    replace hL := hid hL
    by_cases hjn : j < n
    · go_wp2_with fail
      refine (numberM_any H rb r wr hL.out.rd).mono ?_
      rintro e w5 (⟨x, r', v, hp, rfl, ⟨m, hmx, rfl, hAt⟩, hR5, hO5⟩ | ⟨hp, rfl, hO5⟩)
      · have hmid := LI.mid (m := m) intAt_ok hL.out hlt.out.2 hO5 hR5 3
        have hbox : CellsAt (w5.alloc (.cells #[.int .i64 m] 3)) w5.heap.size (intCells m).toArray 3 := cellsAt_alloc w5 _ _
        obtain ⟨v7, w7, hrun, hrow, hg, hat⟩ := run_append_one 72 72 3 3 i0 _ 1 8 Tryz.underlying72 hi hz0 hz1 hz2 rfl (by decide) (by decide) w.heap.size (w5.alloc (.cells #[.int .i64 m] 3)) (.slice ua j uc) ms.length _ hmid.1 (intCells m) rfl (intCells_one m) w5.heap.size hbox (by rw [hml.out]; omega) hmid.2
        have hL7 : LI intCells intAt H w w7 rb 3 1 v7 (ms ++ [m]) r' := LI.step intAt_ok hL.out hlt.out.2 (Nat.le_trans hlt.out.1 (Nat.le_of_lt hlt.out.2)) hO5 hR5 hAt hrow hg hat
        have hP7 : Hid (listP numP (j + 1) l = some ((ms ++ [m]).map id, r')) := hid (by rw [List.map_append, List.map_singleton, hmx]; exact listP_next hP.out hp)
        obtain ⟨a7, c7, hv7⟩ := hL7.val
        rw [List.length_append, hml.out, List.length_singleton] at hv7
        subst hv7
        replace hL7 := hid hL7
        clear hmid hbox hrow hg hat hAt hR5 hO5 hp hmx
        go_wp2_with (at_builtin; refine Lib.wpList_append_run _ rfl _ _ _ _ rfl _ _ rfl rfl _ _ hrun ?_)
        go_roundw
        case rel => exact ⟨j + 1, ms ++ [m], r', by omega, by go_num, hL7.out, hP7.out⟩
        case measure => simp [Go.RowKit.intOf]; omega
      · have hP7 := hid (listP_stop hP.out hp hjn)
        have hO7 := hid (hL.out.out.trans hO5)
        clear hp hO5
        go_wp2_with fail
        exact ⟨rfl, .inr ⟨hP7.out, rfl, hO7.out⟩⟩
    · obtain rfl : j = n := by omega
      go_wp2_with fail
      go_ret
      exact .inl ⟨_, r, .slice ua j uc, hP.out, rfl, ⟨ms, rfl, ⟨ua, uc, by rw [hml.out]⟩, hL.out.row, hL.out.els⟩, hL.out.rd, hL.out.out⟩

theorem fin_rd {α : Type} {H : Nat} {w w4 w5 : World} {rb bx : Nat} {l : List Int} {p : Option (α × List Int)} {V : α → Value → World → Prop} {x : α} {v : Value} (hp : p = some (x, l)) (hR : RdL H w4 rb l) (hO : Out rb w w4) (hK : Kept bx w4 w5) (hbx : w.heap.size ≤ bx) (hlt : H ≤ rb ∧ rb < w.heap.size) (hV : V x v w5) : RetRx H w rb p V (.returned v) w5 := by
  refine .inl ⟨x, l, v, hp, rfl, hV, hR.out (Only.of_kept (M := fun k => k = bx) hK rfl) (by omega) (fun k hk => by omega), ?_⟩
  exact ⟨hK.os.trans hO.os, hK.tape.trans hO.tape, hK.output.trans hO.output, by rw [hK.size]; exact hO.size, fun b hb hne => (hK.block b (by omega)).trans (hO.block b hb hne)⟩
abbrev put2v (w : World) (g : Nat) (v0 v1 : Value) : World := (w.setCell ⟨g, 0, none⟩ v0).setCell ⟨g, 1, none⟩ v1
theorem kept_put2v (w : World) (g : Nat) (v0 v1 : Value) : Kept g w (put2v w g v0 v1) :=
  Kept.setCell (g := g) (Kept.setCell (g := g) (Kept.refl _ _) (p := ⟨g, 0, none⟩) rfl _) (p := ⟨g, 1, none⟩) rfl _
theorem cells_put2v {w : World} {g : Nat} {t : TypeId} {c0 c1 : Value} (v0 v1 : Value) (h : CellsAt w g #[c0, c1] t) : CellsAt (put2v w g v0 v1) g #[v0, v1] t := by
  have k := (h.set 0 v0).set 1 v1
  simp only [List.setIfInBounds_toArray, List.set_cons_succ, List.set_cons_zero] at k
  exact k
abbrev put3v (w : World) (g : Nat) (v0 v1 v2 : Value) : World := ((w.setCell ⟨g, 0, none⟩ v0).setCell ⟨g, 1, none⟩ v1).setCell ⟨g, 2, none⟩ v2
theorem kept_put3v (w : World) (g : Nat) (v0 v1 v2 : Value) : Kept g w (put3v w g v0 v1 v2) :=
  Kept.setCell (g := g) (Kept.setCell (g := g) (Kept.setCell (g := g) (Kept.refl _ _) (p := ⟨g, 0, none⟩) rfl _) (p := ⟨g, 1, none⟩) rfl _) (p := ⟨g, 2, none⟩) rfl _
theorem cells_put3v {w : World} {g : Nat} {t : TypeId} {c0 c1 c2 : Value} (v0 v1 v2 : Value) (h : CellsAt w g #[c0, c1, c2] t) : CellsAt (put3v w g v0 v1 v2) g #[v0, v1, v2] t := by
  have k := ((h.set 0 v0).set 1 v1).set 2 v2
  simp only [List.setIfInBounds_toArray, List.set_cons_succ, List.set_cons_zero] at k
  exact k
theorem cells_put4v {w : World} {g : Nat} {t : TypeId} {c0 c1 c2 c3 : Value} (v0 v1 v2 v3 : Value) (h : CellsAt w g #[c0, c1, c2, c3] t) : CellsAt (put4 w g 0 v0 v1 v2 v3) g #[v0, v1, v2, v3] t := by
  have k := (((h.set 0 v0).set 1 v1).set 2 v2).set 3 v3
  simp only [List.setIfInBounds_toArray, List.set_cons_succ, List.set_cons_zero] at k
  exact k

set_option maxHeartbeats 2000000 in
set_option maxRecDepth 100000 in
theorem rentry_any (H rb : Nat) (l : List Int) (w : World) (hR : RdL H w rb l) :
    Calls Tryz.prog 222 #[.pointer (some ⟨rb, 0, none⟩)] w fun e w' => RetRx H w rb (entP l) (fun x v w' => ∃ m : Ent, id m = x ∧ v = .agg #[.string m.name, .int .i64 m.root, .int .i64 m.size] ∧ entAt (fun b => w.heap.size ≤ b) w' m) e w' := by
  have hlt := hid hR.lt
  have b0 := hid (below_alloc w (.cells #[.string ⟨#[]⟩, .int .i64 0, .int .i64 0] 85))
  have k0 : Hid (CellsAt _ w.heap.size #[.string ⟨#[]⟩, .int .i64 0, .int .i64 0] 85) := hid (cellsAt_alloc w _ _)
  replace hR := hid (hR.below b0.out)
  have hO := hid (Out.of_below (g := rb) b0.out)
  have hne : Hid (w.heap.size ≠ rb) := hid (by have := hlt.out; omega)
  clear b0
  go_enter Tryz.func222, Tryz.ntmps222
  go_upto_region 1 with fail
  generalize w.alloc (.cells #[.string ⟨#[]⟩, .int .i64 0, .int .i64 0] 85) = w0 at *
  go_wp2_with fail
  refine (rname_any H rb l w0 hR.out).mono ?_
  rintro e w1 (⟨s, l1, v, hp1, rfl, ⟨rfl, hs⟩, hR1, hO1⟩ | ⟨hp1, rfl, hO1⟩)
  · replace hp1 := hid hp1
    replace hR1 := hid hR1
    replace k0 := hid (Out.cells hO1 k0.out hne.out)
    replace hO := hid (hO.out.trans hO1)
    clear hR hO1
    go_wp2_with fail
    refine (number_any H rb l1 w1 hR1.out hR1.out.byt).mono ?_
    rintro e w2 (⟨r, l2, v, hp2, rfl, ⟨rfl, hr0, hr1⟩, hR2, hO2⟩ | ⟨hp2, rfl, hO2⟩)
    · replace hp2 := hid hp2
      replace hR2 := hid hR2
      replace k0 := hid (Out.cells hO2 k0.out hne.out)
      replace hO := hid (hO.out.trans hO2)
      clear hR1 hO2
      go_wp2_with fail
      refine (number_any H rb l2 w2 hR2.out hR2.out.byt).mono ?_
      rintro e w3 (⟨z, l3, v, hp3, rfl, ⟨rfl, hz0, hz1⟩, hR3, hO3⟩ | ⟨hp3, rfl, hO3⟩)
      · have hP : Hid (entP l = some (⟨s, r, z⟩, l3)) := hid (by unfold entP; rw [hp1.out]; simp only; rw [hp2.out]; simp only; rw [hp3])
        replace hR3 := hid hR3
        replace k0 := Out.cells hO3 k0.out hne.out
        replace hO := hid (hO.out.trans hO3)
        have d0 := k0.cell 0
        have d1 := k0.cell 1
        have d2 := k0.cell 2
        have e0 := k0.frozen 0
        have e1 := k0.frozen 1
        have e2 := k0.frozen 2
        simp at d0 d1 d2
        replace k0 := hid k0
        clear hR2 hO3 hp3
        go_wp2_with fail
        refine bodyPost_ret (v := .agg #[.string s, .int .i64 r, .int .i64 z]) ?_ rfl (fin_rd hP.out hR3.out hO.out (kept_put3v w3 w.heap.size _ _ _) (Nat.le_refl _) hlt.out ⟨⟨s, r, z⟩, rfl, rfl, hs, ⟨hr0, hr1⟩, hz0, hz1⟩)
        exact results_cell_row rfl _ _ w.heap.size _ _ _ _ rfl (cells_put3v (.string s) (.int .i64 r) (.int .i64 z) k0.out) Tryz.underlying85 rfl (by kernel_rfl)
      · have hP : Hid (entP l = none) := hid (by unfold entP; rw [hp1.out]; simp only; rw [hp2.out]; simp only; rw [hp3])
        replace hO := hid (hO.out.trans hO3)
        clear hp3 hO3
        go_wp2_with fail
        exact ⟨rfl, .inr ⟨hP.out, rfl, hO.out⟩⟩
    · have hP : Hid (entP l = none) := hid (by unfold entP; rw [hp1.out]; simp only; rw [hp2])
      replace hO := hid (hO.out.trans hO2)
      clear hp2 hO2
      go_wp2_with fail
      exact ⟨rfl, .inr ⟨hP.out, rfl, hO.out⟩⟩
  · have hP : Hid (entP l = none) := hid (by unfold entP; rw [hp1])
    replace hO := hid (hO.out.trans hO1)
    clear hp1 hO1
    go_wp2_with fail
    exact ⟨rfl, .inr ⟨hP.out, rfl, hO.out⟩⟩

set_option maxHeartbeats 2000000 in
set_option maxRecDepth 100000 in
theorem rlistE_any (H rb n : Nat) (l : List Int) (w : World) (hR : RdL H w rb l) (hn : n < 65536) :
    Calls Tryz.prog 221 #[.int .i64 n, .func (.func 222) #[.pointer (some ⟨rb, 0, none⟩)] #[]] w fun e w' => RetRx H w rb (listP entP n l) (fun xs v w' => ∃ ms : List Ent, ms.map id = xs ∧ ListV Ent.cells entAt w.heap.size 85 3 ms v w') e w' := by
  obtain ⟨i0, hi, hz0, hz1, hz2⟩ := info_parts Tryz.infoE
  have hlt := hid hR.lt
  replace hR := hid hR
  go_enter Tryz.func221, Tryz.ntmps221
  go_wp2_with fail
  go_loopw [5, 7] (fun u v wr => ∃ (j : Nat) (ms : List Ent) (r : List Int), j ≤ n ∧ v = .int .i64 j ∧ LI Ent.cells entAt H w wr rb 85 3 u ms r ∧ listP entP j l = some (ms.map id, r)) (fun _ v _ => n - (Go.RowKit.intOf v).toNat)
  case atStart => exact ⟨0, [], l, Nat.zero_le _, rfl, LI.start hR.out, rfl⟩
  case round =>
    clear hR
    obtain ⟨j, ms, r, hj, rfl, hL, hP⟩ := hrel
    have hml := hid (show ms.length = j by have := listP_len hP; simpa using this)
    obtain ⟨ua, uc, hu⟩ := hL.val
    rw [hml.out] at hu
    subst hu
    replace hP := hid hP
    replace hL := hid hL
    by_cases hjn : j < n
    · go_wp2_with fail
      refine (rentry_any H rb r wr hL.out.rd).mono ?_
      rintro e w5 (⟨x, r', v, hp, rfl, ⟨m, hmx, rfl, hAt⟩, hR5, hO5⟩ | ⟨hp, rfl, hO5⟩)
      · have hmid := LI.mid (m := m) entAt_ok hL.out hlt.out.2 hO5 hR5 85
        have hbox : CellsAt (w5.alloc (.cells #[.string m.name, .int .i64 m.root, .int .i64 m.size] 85)) w5.heap.size (Ent.cells m).toArray 85 := cellsAt_alloc w5 _ _
        obtain ⟨v7, w7, hrun, hrow, hg, hat⟩ := run_append_one 44 44 85 85 i0 _ 3 32 Tryz.underlying44 hi hz0 hz1 hz2 rfl (by decide) (by decide) w.heap.size (w5.alloc (.cells #[.string m.name, .int .i64 m.root, .int .i64 m.size] 85)) (.slice ua j uc) ms.length _ hmid.1 (Ent.cells m) rfl (Ent.cells_one m) w5.heap.size hbox (by rw [hml.out]; omega) hmid.2
        have hL7 : LI Ent.cells entAt H w w7 rb 85 3 v7 (ms ++ [m]) r' := LI.step entAt_ok hL.out hlt.out.2 (Nat.le_trans hlt.out.1 (Nat.le_of_lt hlt.out.2)) hO5 hR5 hAt hrow hg hat
        have hP7 : Hid (listP entP (j + 1) l = some ((ms ++ [m]).map id, r')) := hid (by rw [List.map_append, List.map_singleton, hmx]; exact listP_next hP.out hp)
        obtain ⟨a7, c7, hv7⟩ := hL7.val
        rw [List.length_append, hml.out, List.length_singleton] at hv7
        subst hv7
        replace hL7 := hid hL7
        clear hmid hbox hrow hg hat hAt hR5 hO5 hp hmx
        go_wp2_with (at_builtin; refine Lib.wpList_append_run _ rfl _ _ _ _ rfl _ _ rfl rfl _ _ hrun ?_)
        go_roundw
        case rel => exact ⟨j + 1, ms ++ [m], r', by omega, by go_num, hL7.out, hP7.out⟩
        case measure => simp [Go.RowKit.intOf]; omega
      · have hP7 := hid (listP_stop hP.out hp hjn)
        have hO7 := hid (hL.out.out.trans hO5)
        clear hp hO5
        go_wp2_with fail
        exact ⟨rfl, .inr ⟨hP7.out, rfl, hO7.out⟩⟩
    · obtain rfl : j = n := by omega
      go_wp2_with fail
      go_ret
      exact .inl ⟨_, r, .slice ua j uc, hP.out, rfl, ⟨ms, rfl, ⟨ua, uc, by rw [hml.out]⟩, hL.out.row, hL.out.els⟩, hL.out.rd, hL.out.out⟩

set_option maxHeartbeats 2000000 in
set_option maxRecDepth 100000 in
theorem rfiles_any (H rb : Nat) (l : List Int) (w : World) (hR : RdL H w rb l) :
    Calls Tryz.prog 210 #[.pointer (some ⟨rb, 0, none⟩)] w fun e w' => RetRx H w rb (filesP l) (fun xs v w' => ∃ ms : List Ent, ms.map id = xs ∧ ListV Ent.cells entAt w.heap.size 85 3 ms v w') e w' := by
  have hmf : ∀ (fn : Fn) (first cap : Array Value) (w : World), (Instr.makeFunc fn first cap).run Tryz.prog w = .ok (.func fn first cap) w := fun _ _ _ _ => rfl
  have hlt := hid hR.lt
  replace hR := hid hR
  go_enter Tryz.func210, Tryz.ntmps210
  go_wp2_with fail
  refine (number_any H rb l w hR.out hR.out.byt).mono ?_
  rintro e w1 (⟨n, l1, v, hp1, rfl, ⟨rfl, hn0, hn1⟩, hR1, hO1⟩ | ⟨hp1, rfl, hO1⟩)
  · obtain ⟨m, rfl⟩ : ∃ m : Nat, n = (m : Int) := ⟨n.toNat, by omega⟩
    replace hp1 := hid hp1
    replace hR1 := hid hR1
    replace hO1 := hid hO1
    go_wp2_with fail
    refine (rlistE_any H rb m l1 w1 hR1.out (by omega)).mono ?_
    rintro e w2 (⟨xs, l2, v, hp2, rfl, ⟨ms, hms, hV⟩, hR2, hO2⟩ | ⟨hp2, rfl, hO2⟩)
    · obtain ⟨va, vc, hv⟩ := hV.val
      subst hv
      have hP : Hid (filesP l = some (xs, l2)) := hid (by unfold filesP; rw [hp1.out]; simpa using hp2)
      have hV' : Hid (ListV Ent.cells entAt w.heap.size 85 3 ms (.slice va ms.length vc) w2) := hid ⟨hV.val, ownsRow_base hO1.out.size hV.row, fun m hm => hV.els m hm⟩
      replace hms := hid hms
      replace hR2 := hid hR2
      have hO := hid (hO1.out.trans hO2)
      clear hV hO2 hp2 hR1
      go_wp2_with fail
      go_ret
      exact .inl ⟨xs, l2, _, hP.out, rfl, ⟨ms, hms.out, hV'.out⟩, hR2.out, hO.out⟩
    · have hP : Hid (filesP l = none) := hid (by unfold filesP; rw [hp1.out]; simpa using hp2)
      have hO := hid (hO1.out.trans hO2)
      clear hp2 hO2
      go_wp2_with fail
      exact ⟨rfl, .inr ⟨hP.out, rfl, hO.out⟩⟩
  · have hP : Hid (filesP l = none) := hid (by unfold filesP; rw [hp1])
    replace hO1 := hid hO1
    clear hp1
    go_wp2_with fail
    exact ⟨rfl, .inr ⟨hP.out, rfl, hO1.out⟩⟩
end Go.Proofs.YtihkljfcplfldaaGreat
