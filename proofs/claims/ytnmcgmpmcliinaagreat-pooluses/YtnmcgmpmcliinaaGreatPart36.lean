/-
  SetCl, PoolR in one text. Nothing here is trusted.
-/
import Derived.Test.YtnmcgmpmcliinaaGreatPart29
import Derived.Test.YtnmcgmpmcliinaaGreatPart33
import Derived.Test.YtnmcgmpmcliinaaGreatPart26
import Derived.Test.YtnmcgmpmcliinaaGreatPart35
set_option linter.unusedVariables false
namespace Go.Proofs.YtnmcgmpmcliinaaGreat
open Go.RowKit
set_option maxHeartbeats 8000000 in
set_option maxRecDepth 100000 in
theorem clone_any (sa : Option Addr) (n sc : Nat) (B : Nat → Blk) (key : Int) (v : SetV) (x : SetE) (from' name : ByteArray) (cc : Int) (w : World) (hs : StoreAt w sa n B) (hX : SetAt (fun _ => True) w v x) (hfr : from'.size ≤ maxLen) (hnsm : name.size ≤ maxLen) (hc : ∀ k, k < n → (B k).refs ≤ cc) (hcc : cc + 6 ≤ 1000000) :
    Calls Tryz.prog 42 #[.agg #[.slice sa n sc], .int .i64 key, v.val, .string from', .string name] w fun e w' => RetCl w n B key x cc e w' := by
  have hcb := hid (cb_enter w sa n sc v)
  unfold SetV.val
  replace hs := hid hs
  replace hX := hid hX
  replace hc := hid hc
  have hcc' := hid hcc
  replace hnsm := hid hnsm
  clear hcc
  go_enter Tryz.func42, Tryz.ntmps42
  go_wp2_with fail
  generalize (((w.alloc (.cells #[.slice sa n sc] 24)).alloc (.cells #[.string v.name, .slice v.fa v.fn v.fc, .slice v.sa v.sn v.sc] 47)).alloc (.cells #[.slice none 0 0] 24)).alloc (.cells #[.string (ByteArray.mk #[]), .slice none 0 0, .slice none 0 0] 47) = w0 at *
  refine (checkHeld_any (fun _ => True) sa n sc B key v x w0 (hs.out.below hcb.out.bel) (hX.out.below hcb.out.bel)).mono ?_
  rintro e w1 ⟨⟨e', rfl, he⟩, b1⟩
  replace hcb := hid (hcb.out.below b1)
  replace he := hid he
  clear b1
  by_cases h0 : e' = 0
  case neg =>
    have h0' : (e' == 0) = false := by simp [h0]
    have q1 := hcb.out.r8.cell 0
    have q2 := hcb.out.r8.frozen 0
    have q3 := hcb.out.r9.cell 0
    have q4 := hcb.out.r9.frozen 0
    have q5 := hcb.out.r9.cell 1
    have q6 := hcb.out.r9.frozen 1
    have q7 := hcb.out.r9.cell 2
    have q8 := hcb.out.r9.frozen 2
    simp at q1 q3 q5 q7
    go_wp2_with fail
    refine bodyPost_ret (v := .tuple #[.agg #[.slice none 0 0], .agg #[.string (ByteArray.mk #[]), .slice none 0 0, .slice none 0 0], .int .i64 e']) (by rw [results_cells2 rfl]; go_simp) rfl ⟨hcb.out.put (.slice none 0 0) ⟨(ByteArray.mk #[]), none, 0, 0, none, 0, 0⟩, .inl ⟨e', rfl, h0⟩⟩
  subst h0
  obtain ⟨hx, hh⟩ := he.out.1 rfl
  clear he
  have hsn3 := hx.shape.fewS
  have hoS := hid hx.shape.orderS
  replace hx := hid hx
  replace hh := hid hh
  have hsl := hX.out.snaps.1
  have hvs : v.sn ≤ 3 := by omega
  go_wp2_with fail
  refine (name_any name w1 hnsm.out).mono ?_
  rintro e w1' ⟨⟨t, rfl, ht⟩, rfl⟩
  cases t
  case false =>
    replace ht := hid ht
    have q1 := hcb.out.r8.cell 0
    have q2 := hcb.out.r8.frozen 0
    have q3 := hcb.out.r9.cell 0
    have q4 := hcb.out.r9.frozen 0
    have q5 := hcb.out.r9.cell 1
    have q6 := hcb.out.r9.frozen 1
    have q7 := hcb.out.r9.cell 2
    have q8 := hcb.out.r9.frozen 2
    simp at q1 q3 q5 q7
    go_wp2_with fail
    refine bodyPost_ret (v := .tuple #[.agg #[.slice none 0 0], .agg #[.string (ByteArray.mk #[]), .slice none 0 0, .slice none 0 0], .int .i64 1]) (by rw [results_cells2 rfl]; go_simp) rfl ⟨hcb.out.put (.slice none 0 0) ⟨(ByteArray.mk #[]), none, 0, 0, none, 0, 0⟩, .inl ⟨1, rfl, (by omega)⟩⟩
  have hnm := hid (ht.1 rfl)
  clear ht
  have s2 := hcb.out.bX.cell 2
  simp at s2
  go_wp2_with fail
  refine (findS_any (fun _ => True) v.sa v.sn v.sc x.snaps from' w1' (by omega) (hX.out.snaps.below hcb.out.bel) hoS.out).mono ?_
  rintro e w2 ⟨⟨q, b, rfl, hF⟩, b2⟩
  replace hcb := hid (hcb.out.below b2)
  clear b2 s2
  cases b
  case false =>
    clear hF
    have q1 := hcb.out.r8.cell 0
    have q2 := hcb.out.r8.frozen 0
    have q3 := hcb.out.r9.cell 0
    have q4 := hcb.out.r9.frozen 0
    have q5 := hcb.out.r9.cell 1
    have q6 := hcb.out.r9.frozen 1
    have q7 := hcb.out.r9.cell 2
    have q8 := hcb.out.r9.frozen 2
    simp at q1 q3 q5 q7
    go_wp2_with fail
    refine bodyPost_ret (v := .tuple #[.agg #[.slice none 0 0], .agg #[.string (ByteArray.mk #[]), .slice none 0 0, .slice none 0 0], .int .i64 5]) (by rw [results_cells2 rfl]; go_simp) rfl ⟨hcb.out.put (.slice none 0 0) ⟨(ByteArray.mk #[]), none, 0, 0, none, 0, 0⟩, .inl ⟨5, rfl, (by omega)⟩⟩
  obtain ⟨hq, _⟩ := found_at hF
  clear hF
  have hqv : q < v.sn := by omega
  obtain ⟨sb, so, hsb⟩ : ∃ b off, v.sa = some ⟨b, off, none⟩ := by
    obtain ⟨b, off, e, _⟩ := hX.out.snaps.2 (by omega)
    exact ⟨b, off, e⟩
  have hSn := hX.out.snaps
  rw [hsb] at hSn
  obtain ⟨fa2, fn2, fc2, hAt⟩ := hSn.snap hqv
  have lsb0 : sb < w.heap.size := cell_lt hAt.c0
  have hgd : x.snaps.getD q SnapE.zero = x.snaps[q] := by simp [List.getD, hq]
  rw [hgd] at hAt
  have hmemq := List.getElem_mem hq
  have hl2 : Hid (∃ l2, l2 = x.snaps[q].files) := hid ⟨_, rfl⟩
  obtain ⟨l2, hl2⟩ := hl2.out
  have hE2 := hAt.files
  rw [← hl2] at hE2
  have hl6 : fn2 ≤ 6 := by rw [← hE2.1, hl2]; exact (hx.out.shape.filesS _ hmemq).1
  have c1 := hAt.c1
  have s1 := hcb.out.bX.cell 2
  simp at s1
  rw [hsb] at s1
  have s2 := (hcb.out.bel.cell (p := ⟨sb, so + q * 2 + 1, none⟩) lsb0).trans c1
  have S1 := hid s1
  have S2 := hid s2
  have lx := hcb.out.bX.lt
  have hszdb := hcb.out.sz
  have lsb : sb < w2.heap.size := by omega
  have m1 := Nat.ne_of_lt lx
  have m2 : w.heap.size + 1 ≠ w2.heap.size + 1 := by omega
  have m3 : w.heap.size ≠ w2.heap.size := by omega
  have n1 := Nat.ne_of_lt lsb
  have n2 : sb ≠ w2.heap.size + 1 := by omega
  have m1' := m1.symm
  have m2' := m2.symm
  have m3' := m3.symm
  have n1' := n1.symm
  have n2' := n2.symm
  have hq0 : (0 : Int) ≤ (q : Int) := by omega
  have hq1 : (q : Int) < (v.sn : Int) := by omega
  have hn4 : n ≤ 400 := hx.out.right.small
  have hF4 : Hid (∀ i, i < n → (B i).kids.length ≤ 4 ∧ (B i).bytes.length ≤ 4) := hid (fun i hi => ⟨(hx.out.right.one i hi).few, (hx.out.right.one i hi).few2⟩)
  have hptr := hid (fun W0 (bb : Below w2.heap.size w2 W0) => (PtrAt.mk hcb.out.bS.lt (by have := hcb.out.bS.cell 0; simpa using this) (hs.out.below hcb.out.bel) : PtrAt w2 ⟨w.heap.size, 0, none⟩ sa n sc B).below bb)
  have hents := hid (fun W0 (bb : Below w2.heap.size w2 W0) => (hE2.below hcb.out.bel).below bb)
  replace hl2 := hid hl2
  clear hAt hSn hgd c1 hE2
  replace hsb := hid hsb
  go_upto_region 9 with fail
  go_cut [16, 17] from 43 (fun v12 v13 wc => GotD w2 wc n B ⟨name, l2, []⟩ v12 v13)
  case first =>
    go_region_held3 (fun w' => w'.cell? ⟨w.heap.size + 1, 2, none⟩ = some (.slice (some ⟨sb, so, none⟩) v.sn v.sc) ∧ w'.cell? ⟨sb, so + q * 2 + 1, none⟩ = some (.slice fa2 fn2 fc2)) (first | go_keep | assumption) (first | (go_at_call 45; refine Calls.mono (copy_any ⟨w.heap.size, 0, none⟩ sa n sc B _ ?_ hn4 hF4.out) ?_; (focus (refine hptr.out _ ?_; (repeat (first | with_reducible exact Below.refl _ _ | with_reducible exact bbO.out | with_reducible exact bbS.out | with_reducible refine bDr ?_ | with_reducible refine bAl ?_ _)); done)); rintro e wO ⟨bNew, gO, rfl, hgO, hO⟩; refine cutTo (le_of_chain (a := w2) ?_ hgO) ?_; (focus ((repeat (first | with_reducible exact Below.refl _ _ | with_reducible exact bbO.out | with_reducible exact bbS.out | with_reducible refine bDr ?_ | with_reducible refine bAl ?_ _)); done)); intro hg2; refine cutTo (A := Below w2.heap.size w2 wO) ?_ ?_; (focus (refine Below.tr ?_ bNew; (repeat (first | with_reducible exact Below.refl _ _ | with_reducible exact bbO.out | with_reducible exact bbS.out | with_reducible refine bDr ?_ | with_reducible refine bAl ?_ _)); done)); intro bTmp; have bbO := hid bTmp; clear bTmp; (first | (refine cutTo (CellsAt.below kaS.out (Below.tr ?_ bNew)) ?_; (focus ((repeat (first | with_reducible exact Below.refl _ _ | with_reducible refine bDr ?_ | with_reducible refine bAl ?_ _)); done)); intro kTmp; have kaO := hid kTmp; clear kTmp) | (refine cutTo (CellsAt.below (cellsAt_alloc wS #[.slice none 0 0] 24) (Below.tr ?_ bNew)) ?_; (focus ((repeat (first | with_reducible exact Below.refl _ _ | with_reducible refine bDr ?_ | with_reducible refine bAl ?_ _)); done)); intro kTmp; have kaO := hid kTmp; clear kTmp) | (refine cutTo (CellsAt.below (cellsAt_alloc2 wS obj0X #[.slice none 0 0] 24) (Below.tr ?_ bNew)) ?_; (focus ((repeat (first | with_reducible exact Below.refl _ _ | with_reducible refine bDr ?_ | with_reducible refine bAl ?_ _)); done)); intro kTmp; have kaO := hid kTmp; clear kTmp) | (refine cutTo (CellsAt.below (cellsAt_alloc w2 #[.slice none 0 0] 24) (Below.tr ?_ bNew)) ?_; (focus ((repeat (first | with_reducible exact Below.refl _ _ | with_reducible refine bDr ?_ | with_reducible refine bAl ?_ _)); done)); intro kTmp; have kaO := hid kTmp; clear kTmp) | (refine cutTo (CellsAt.below (cellsAt_alloc2 w2 obj0X #[.slice none 0 0] 24) (Below.tr ?_ bNew)) ?_; (focus ((repeat (first | with_reducible exact Below.refl _ _ | with_reducible refine bDr ?_ | with_reducible refine bAl ?_ _)); done)); intro kTmp; have kaO := hid kTmp; clear kTmp) | skip); (first | (refine cutTo (CellsAt.below kbS.out (Below.tr ?_ bNew)) ?_; (focus ((repeat (first | with_reducible exact Below.refl _ _ | with_reducible refine bDr ?_ | with_reducible refine bAl ?_ _)); done)); intro kTmp; have kbO := hid kTmp; clear kTmp) | (refine cutTo (CellsAt.below (cellsAt_alloc wS #[.string (ByteArray.mk #[]), .slice none 0 0, .slice none 0 0] 47) (Below.tr ?_ bNew)) ?_; (focus ((repeat (first | with_reducible exact Below.refl _ _ | with_reducible refine bDr ?_ | with_reducible refine bAl ?_ _)); done)); intro kTmp; have kbO := hid kTmp; clear kTmp) | (refine cutTo (CellsAt.below (cellsAt_alloc2 wS obj0S #[.string (ByteArray.mk #[]), .slice none 0 0, .slice none 0 0] 47) (Below.tr ?_ bNew)) ?_; (focus ((repeat (first | with_reducible exact Below.refl _ _ | with_reducible refine bDr ?_ | with_reducible refine bAl ?_ _)); done)); intro kTmp; have kbO := hid kTmp; clear kTmp) | (refine cutTo (CellsAt.below (cellsAt_alloc w2 #[.string (ByteArray.mk #[]), .slice none 0 0, .slice none 0 0] 47) (Below.tr ?_ bNew)) ?_; (focus ((repeat (first | with_reducible exact Below.refl _ _ | with_reducible refine bDr ?_ | with_reducible refine bAl ?_ _)); done)); intro kTmp; have kbO := hid kTmp; clear kTmp) | (refine cutTo (CellsAt.below (cellsAt_alloc2 w2 obj0S #[.string (ByteArray.mk #[]), .slice none 0 0, .slice none 0 0] 47) (Below.tr ?_ bNew)) ?_; (focus ((repeat (first | with_reducible exact Below.refl _ _ | with_reducible refine bDr ?_ | with_reducible refine bAl ?_ _)); done)); intro kTmp; have kbO := hid kTmp; clear kTmp) | skip); (try (refine cutTo (le_of_chain (a := wS) ?_ hgO) ?_; (focus ((repeat (first | with_reducible exact Below.refl _ _ | with_reducible refine bDr ?_ | with_reducible refine bAl ?_ _)); done)); intro hap; refine cutTo (A := Below wS.heap.size wS wO) ?_ ?_; (focus (refine Below.tr ?_ bNew; (repeat (first | with_reducible exact Below.refl _ _ | with_reducible refine bDr ?_ | with_reducible refine bAl ?_ _)); done)); intro bTmp; have cop := hid (cop_of (W := w2) hO hg2 (Below.refl _ _) hS.out hlo bTmp (.inr hap)); have bbL := bbO; have hszL := bTmp.size; clear bTmp)); have hszO := bbO.out.size; have m1O : w.heap.size + 1 ≠ wO.heap.size := (by omega); have m2O : w.heap.size + 1 ≠ wO.heap.size + 1 := (by omega); have m3O : w.heap.size ≠ wO.heap.size := (by omega); have n1O : sb ≠ wO.heap.size := (by omega); have n2O : sb ≠ wO.heap.size + 1 := (by omega); have n1O' := n1O.symm; have n2O' := n2O.symm; have m3O' := m3O.symm; have m1O' := m1O.symm; have m2O' := m2O.symm; have s1O := (bbO.out.cell (p := ⟨w.heap.size + 1, 2, none⟩) lx).trans S1.out; have s2O := (bbO.out.cell (p := ⟨sb, so + q * 2 + 1, none⟩) lsb).trans S2.out; (try clear s1 s2); (try (have lkaO := kaO.out.lt; have nkaO := Nat.ne_of_lt lkaO; have nkaO' := nkaO.symm; have caO := kaO.out.cell 0; have fraO := kaO.out.frozen 0; simp only [List.getElem?_toArray, List.getElem?_cons_zero] at caO)); (try (have lkbO := kbO.out.lt; have nkbO := Nat.ne_of_lt lkbO; have nkbO' := nkbO.symm; have cb0O := kbO.out.cell 0; have cb1O := kbO.out.cell 1; have cb2O := kbO.out.cell 2; have frb0O := kbO.out.frozen 0; have frb1O := kbO.out.frozen 1; have frb2O := kbO.out.frozen 2; simp only [List.getElem?_toArray, List.getElem?_cons_zero, List.getElem?_cons_succ] at cb0O cb1O cb2O)); (try clear s1S s2S); (try clear caS fraS); (try clear cb0S cb1S cb2S frb0S frb1S frb2S); have hgz := hgO; (try simp only [sz_drew] at hgz); (try simp only [sz_alloc] at hgz); replace hO := hid hO; have hgl := hO.out.lt; clear bNew hgO) | (go_at_call 82; refine Calls.mono (cloneE_lo name fa2 fn2 fc2 l2 _ hl6 hnsm.out ?_) ?_; (focus (refine hents.out _ ?_; (repeat (first | with_reducible exact Below.refl _ _ | with_reducible exact bbO.out | with_reducible exact bbS.out | with_reducible refine bDr ?_ | with_reducible refine bAl ?_ _)); done)); rintro e wS ⟨⟨ya, yc, lo, rfl, hlz, hS⟩, bNew⟩; refine cutTo (le_of_chain (a := w2) ?_ hlz) ?_; (focus ((repeat (first | with_reducible exact Below.refl _ _ | with_reducible exact bbO.out | with_reducible exact bbS.out | with_reducible refine bDr ?_ | with_reducible refine bAl ?_ _)); done)); intro hlo; refine cutTo (A := Below w2.heap.size w2 wS) ?_ ?_; (focus (refine Below.tr ?_ bNew; (repeat (first | with_reducible exact Below.refl _ _ | with_reducible exact bbO.out | with_reducible exact bbS.out | with_reducible refine bDr ?_ | with_reducible refine bAl ?_ _)); done)); intro bTmp; have bbS := hid bTmp; clear bTmp; (first | (refine cutTo (CellsAt.below kaO.out (Below.tr ?_ bNew)) ?_; (focus ((repeat (first | with_reducible exact Below.refl _ _ | with_reducible refine bDr ?_ | with_reducible refine bAl ?_ _)); done)); intro kTmp; have kaS := hid kTmp; clear kTmp) | (refine cutTo (CellsAt.below (cellsAt_alloc wO #[.slice none 0 0] 24) (Below.tr ?_ bNew)) ?_; (focus ((repeat (first | with_reducible exact Below.refl _ _ | with_reducible refine bDr ?_ | with_reducible refine bAl ?_ _)); done)); intro kTmp; have kaS := hid kTmp; clear kTmp) | (refine cutTo (CellsAt.below (cellsAt_alloc2 wO obj0X #[.slice none 0 0] 24) (Below.tr ?_ bNew)) ?_; (focus ((repeat (first | with_reducible exact Below.refl _ _ | with_reducible refine bDr ?_ | with_reducible refine bAl ?_ _)); done)); intro kTmp; have kaS := hid kTmp; clear kTmp) | (refine cutTo (CellsAt.below (cellsAt_alloc w2 #[.slice none 0 0] 24) (Below.tr ?_ bNew)) ?_; (focus ((repeat (first | with_reducible exact Below.refl _ _ | with_reducible refine bDr ?_ | with_reducible refine bAl ?_ _)); done)); intro kTmp; have kaS := hid kTmp; clear kTmp) | (refine cutTo (CellsAt.below (cellsAt_alloc2 w2 obj0X #[.slice none 0 0] 24) (Below.tr ?_ bNew)) ?_; (focus ((repeat (first | with_reducible exact Below.refl _ _ | with_reducible refine bDr ?_ | with_reducible refine bAl ?_ _)); done)); intro kTmp; have kaS := hid kTmp; clear kTmp) | skip); (first | (refine cutTo (CellsAt.below kbO.out (Below.tr ?_ bNew)) ?_; (focus ((repeat (first | with_reducible exact Below.refl _ _ | with_reducible refine bDr ?_ | with_reducible refine bAl ?_ _)); done)); intro kTmp; have kbS := hid kTmp; clear kTmp) | (refine cutTo (CellsAt.below (cellsAt_alloc wO #[.string (ByteArray.mk #[]), .slice none 0 0, .slice none 0 0] 47) (Below.tr ?_ bNew)) ?_; (focus ((repeat (first | with_reducible exact Below.refl _ _ | with_reducible refine bDr ?_ | with_reducible refine bAl ?_ _)); done)); intro kTmp; have kbS := hid kTmp; clear kTmp) | (refine cutTo (CellsAt.below (cellsAt_alloc2 wO obj0S #[.string (ByteArray.mk #[]), .slice none 0 0, .slice none 0 0] 47) (Below.tr ?_ bNew)) ?_; (focus ((repeat (first | with_reducible exact Below.refl _ _ | with_reducible refine bDr ?_ | with_reducible refine bAl ?_ _)); done)); intro kTmp; have kbS := hid kTmp; clear kTmp) | (refine cutTo (CellsAt.below (cellsAt_alloc w2 #[.string (ByteArray.mk #[]), .slice none 0 0, .slice none 0 0] 47) (Below.tr ?_ bNew)) ?_; (focus ((repeat (first | with_reducible exact Below.refl _ _ | with_reducible refine bDr ?_ | with_reducible refine bAl ?_ _)); done)); intro kTmp; have kbS := hid kTmp; clear kTmp) | (refine cutTo (CellsAt.below (cellsAt_alloc2 w2 obj0S #[.string (ByteArray.mk #[]), .slice none 0 0, .slice none 0 0] 47) (Below.tr ?_ bNew)) ?_; (focus ((repeat (first | with_reducible exact Below.refl _ _ | with_reducible refine bDr ?_ | with_reducible refine bAl ?_ _)); done)); intro kTmp; have kbS := hid kTmp; clear kTmp) | skip); (try (refine cutTo (le_of_chain (a := wO) ?_ hlz) ?_; (focus ((repeat (first | with_reducible exact Below.refl _ _ | with_reducible refine bDr ?_ | with_reducible refine bAl ?_ _)); done)); intro hap; refine cutTo (A := Below wO.heap.size wO wS) ?_ ?_; (focus (refine Below.tr ?_ bNew; (repeat (first | with_reducible exact Below.refl _ _ | with_reducible refine bDr ?_ | with_reducible refine bAl ?_ _)); done)); intro bTmp; have cop := hid (cop_of (W := w2) hO.out hg2 bTmp hS hlo (Below.refl _ _) (.inl hap)); have bbL := bbS; have hszL := bTmp.size; clear bTmp)); have hszS := bbS.out.size; have m1S : w.heap.size + 1 ≠ wS.heap.size := (by omega); have m2S : w.heap.size + 1 ≠ wS.heap.size + 1 := (by omega); have m3S : w.heap.size ≠ wS.heap.size := (by omega); have n1S : sb ≠ wS.heap.size := (by omega); have n2S : sb ≠ wS.heap.size + 1 := (by omega); have n1S' := n1S.symm; have n2S' := n2S.symm; have m3S' := m3S.symm; have m1S' := m1S.symm; have m2S' := m2S.symm; have s1S := (bbS.out.cell (p := ⟨w.heap.size + 1, 2, none⟩) lx).trans S1.out; have s2S := (bbS.out.cell (p := ⟨sb, so + q * 2 + 1, none⟩) lsb).trans S2.out; (try clear s1 s2); (try (have lkaS := kaS.out.lt; have nkaS := Nat.ne_of_lt lkaS; have nkaS' := nkaS.symm; have caS := kaS.out.cell 0; have fraS := kaS.out.frozen 0; simp only [List.getElem?_toArray, List.getElem?_cons_zero] at caS)); (try (have lkbS := kbS.out.lt; have nkbS := Nat.ne_of_lt lkbS; have nkbS' := nkbS.symm; have cb0S := kbS.out.cell 0; have cb1S := kbS.out.cell 1; have cb2S := kbS.out.cell 2; have frb0S := kbS.out.frozen 0; have frb1S := kbS.out.frozen 1; have frb2S := kbS.out.frozen 2; simp only [List.getElem?_toArray, List.getElem?_cons_zero, List.getElem?_cons_succ] at cb0S cb1S cb2S)); (try clear s1O s2O); (try clear caO fraO); (try clear cb0O cb1O cb2O frb0O frb1O frb2O); (try simp only [sz_drew] at hlz); (try simp only [sz_alloc] at hlz); replace hS := hid hS; clear bNew))
    all_goals (go_wp2_with fail; go_meet; first
      | (with_reducible refine gotd_cab cop.out ?_ bbL.out; all_goals (first | omega | (intro f; rcases f with f | f <;> omega) | (intro b f; rcases f with f | f <;> omega)))
      | (with_reducible refine gotd_cba cop.out ?_ bbL.out; all_goals (first | omega | (intro f; rcases f with f | f <;> omega) | (intro b f; rcases f with f | f <;> omega)))
      | (with_reducible refine gotd_acb ?_ ?_ kaS.out cop.out ?_ bbL.out; all_goals (first | omega | (intro f; rcases f with f | f <;> omega) | (intro b f; rcases f with f | f <;> omega)))
      | (with_reducible refine gotd_bca ?_ ?_ kbS.out cop.out ?_ bbL.out; all_goals (first | omega | (intro f; rcases f with f | f <;> omega) | (intro b f; rcases f with f | f <;> omega)))
      | (with_reducible refine gotd_abc ?_ ?_ ?_ ?_ ?_ kaS.out kbS.out cop.out bbL.out; all_goals (first | omega | (intro f; rcases f with f | f <;> omega) | (intro b f; rcases f with f | f <;> omega)))
      | (with_reducible refine gotd_acb ?_ ?_ kaO.out cop.out ?_ bbL.out; all_goals (first | omega | (intro f; rcases f with f | f <;> omega) | (intro b f; rcases f with f | f <;> omega)))
      | (with_reducible refine gotd_bca ?_ ?_ kbO.out cop.out ?_ bbL.out; all_goals (first | omega | (intro f; rcases f with f | f <;> omega) | (intro b f; rcases f with f | f <;> omega)))
      | (with_reducible refine gotd_abc ?_ ?_ ?_ ?_ ?_ kaO.out kbO.out cop.out bbL.out; all_goals (first | omega | (intro f; rcases f with f | f <;> omega) | (intro b f; rcases f with f | f <;> omega))))
  case rest =>
    obtain ⟨ob, yb, g, u, ms, P, rfl, rfl, hT, bC, lo, ly, lg⟩ := hcut
    clear S1 S2 s1 s2 m1 m2 m1' m2' m3 m3' n1 n1' n2 n2' hptr hents lx lsb
    have hcbC := hid (hcb.out.below bC)
    have y0 := hT.set.box.cell 0
    have y1 := hT.set.box.cell 1
    have y2 := hT.set.box.cell 2
    simp at y0 y1 y2
    have hyn := hT.set.new.name
    have hsf := (hx.out.filesS _ hmemq)
    rw [← hl2.out] at hsf
    have hshy : Shape ⟨name, l2, []⟩ := ⟨hnm.out, hsf.few, hsf.names, hsf.order, by simp, fun s h => by simp at h, List.Pairwise.nil, fun s h => by simp at h⟩
    have hT' := hid hT
    replace bC := hid bC
    clear hT
    go_wp2_with fail
    refine (roots_lo (fun b => w2.heap.size ≤ b ∨ P b) u ⟨name, l2, []⟩ name _ hT'.out.set.new.at hshy hyn).mono ?_
    rintro e w4 ⟨⟨ra, rc, lo', rfl, hlo', hr, hw, _⟩, b4⟩
    have hgl := hT'.out.own.lt
    have hrt : rootsX ⟨name, l2, []⟩ = rootsE l2 := by simp [rootsX, rootsS]
    have hK : ∀ r ∈ rootsX ⟨name, l2, []⟩, r = 0 ∨ There n B r := fun r hr => by
      rw [hrt] at hr
      obtain ⟨e, he, rfl⟩ := mem_rootsE.1 hr
      rcases (hsf.files e he).rooted with h0 | ⟨h1, _⟩
      · exact .inl h0
      · exact .inr h1
    have hlen : (rootsX ⟨name, l2, []⟩).length ≤ 6 := by rw [hrt, length_rootsE]; exact hsf.few
    have hroom : ∀ i, i < n → (B i).refs + ((rootsX ⟨name, l2, []⟩).length : Int) ≤ 1000000 := fun i hi => by have := hc.out i hi; have := hcc'.out; omega
    have hN := hid ((nums_row hr hw).weaken (R := fun b => b ≠ g) (fun b _ q => by have := q.1; omega))
    have hT4 := hid (hT'.out.below b4)
    have hcb4 := hid (hcbC.out.below b4)
    have b4' := hid (Below.tr bC.out b4)
    replace hK := hid hK
    replace hrt := hid hrt
    replace hroom := hid hroom
    replace hlen := hid hlen
    clear y0 y1 y2 hr hw b4
    go_wp2_with fail
    refine (shift_any ⟨ob, 0, none⟩ g n B ra (rootsX ⟨name, l2, []⟩).length rc (rootsX ⟨name, l2, []⟩) none 0 0 [] w4 hT4.out.ptr hN.out ⟨rfl, fun x hx => by simp at hx, fun h => absurd h (by omega)⟩ (by omega) (by have := hlen.out; omega) hx.out.right hK.out hroom.out (fun k hk => by
      have h1 := hh.out k hk
      have h2 : (0 : Int) ≤ ((rootsX x).count ((k : Int) + 1) : Int) := by omega
      simp
      omega) (fun r hr => by simp at hr)).mono ?_
    rintro e w5 ⟨rfl, ho, D, hOP, hRD, hFD⟩
    obtain ⟨hg, hrefs, hmoreB⟩ := grow_of_fell hx.out.right hK.out hroom.out hRD hFD
    have on5 : Only (fun b => b = g) w4 w5 := Only.of_out ho rfl
    have hb5 : Below w2.heap.size w2 w5 := b4'.out.trans (ho.below hT4.out.ng.2.2.2 b4'.out.size)
    have hcb5 := hid (hcb.out.below hb5)
    have hyb : CellsAt w5 yb #[.string name, .slice u.fa u.fn u.fc, .slice u.sa u.sn u.sc] 47 := on5.cells hT4.out.set.box (fun e => hT4.out.ng.1 e.symm)
    have hSN := hT4.out.set.new.only on5 (fun b hb e => hT4.out.ng.2.1 (e ▸ hb)) (fun b hb e => hT4.out.ng.2.2.1 (e ▸ hb))
    have hLb := hT4.out.lb
    have g8 : w2.heap.size ≤ g := hT4.out.ng.2.2.2
    obtain ⟨hok, hheld, _⟩ := clone_ok (nm := name) hx.out hq hnm.out (by rw [← hl2.out, ← hrt.out]; exact hg) hh.out
    rw [← hl2.out] at hok hheld
    have hfew : ∀ k, k < n → (D k).refs ≤ cc + 6 := fun k hk => by
      rw [hrefs k hk]
      have h1 := hc.out k hk
      have h2 : (rootsX ⟨name, l2, []⟩).count ((k : Int) + 1) ≤ 6 := Nat.le_trans List.count_le_length hlen.out
      omega
    have J := hid (fin_cl hcb5.out hszdb g8 hx.out hh.out hg ⟨rfl, ⟨q, hq, hl2.out⟩, hmoreB⟩ hok hheld hfew hOP.own hSN hLb)
    have ho9 := hOP.cell
    have z0 := hyb.cell 0
    have z1 := hyb.cell 1
    have z2 := hyb.cell 2
    simp at z0 z1 z2
    have q1 := hcb5.out.r8.cell 0
    have q2 := hcb5.out.r8.frozen 0
    have q3 := hcb5.out.r9.cell 0
    have q4 := hcb5.out.r9.frozen 0
    have q5 := hcb5.out.r9.cell 1
    have q6 := hcb5.out.r9.frozen 1
    have q7 := hcb5.out.r9.cell 2
    have q8 := hcb5.out.r9.frozen 2
    simp at q1 q3 q5 q7
    have n1 : ob ≠ w.heap.size + 1 + 1 := by omega
    have n2 : ob ≠ w.heap.size + 1 + 1 + 1 := by omega
    have n3 : yb ≠ w.heap.size + 1 + 1 := by omega
    have n4 : yb ≠ w.heap.size + 1 + 1 + 1 := by omega
    have n1' := n1.symm
    have n2' := n2.symm
    have n3' := n3.symm
    have n4' := n4.symm
    clear hOP hyb hSN hLb ho on5 hg hrefs hok hheld hfew hRD hFD
    go_upto_region 11 with fail
    go_region_held3 (fun w' => w'.cell? ⟨ob, 0, none⟩ = some (.slice (some ⟨g, 0, none⟩) n n) ∧ w'.cell? ⟨yb, 0, none⟩ = some (.string name) ∧ w'.cell? ⟨yb, 1, none⟩ = some (.slice u.fa u.fn u.fc) ∧ w'.cell? ⟨yb, 2, none⟩ = some (.slice u.sa u.sn u.sc)) (first | go_keep | assumption) (first | fail)
    all_goals (
      go_wp2_with fail
      refine bodyPost_ret (v := .tuple #[.agg #[.slice (some ⟨g, 0, none⟩) n n], .agg #[.string name, .slice u.fa u.fn u.fc, .slice u.sa u.sn u.sc], .int .i64 0]) (by rw [results_cells2 rfl]; go_simp) rfl ?_
      first
        | exact J.out
        | exact J.out.drew)
end Go.Proofs.YtnmcgmpmcliinaaGreat

namespace Go.Proofs.YtnmcgmpmcliinaaGreat
open Go.RowKit
def CaseS (base n : Nat) (N : Prop) (P : (Nat → Blk) → SetE → Prop) (sx : Option Addr) (ln lc : Nat) (u : SetV) (e' : Int) (w : World) : Prop :=
  (e' ≠ 0 ∧ N) ∨ (e' = 0 ∧ ∃ g D y, sx = some ⟨g, 0, none⟩ ∧ ln = n ∧ lc = n ∧ P D y ∧ base ≤ g ∧ Own w g n D ∧ SetAt (fun b => base ≤ b) w u y)
theorem CaseS.only {base base' n : Nat} {N : Prop} {P : (Nat → Blk) → SetE → Prop} {sx : Option Addr} {ln lc : Nat} {u : SetV} {e' : Int} {w w' : World} {M : Nat → Prop} (h : CaseS base n N P sx ln lc u e' w) (on : Only M w w') (hM : ∀ b, M b → b < base) (hb : base' ≤ base) : CaseS base' n N P sx ln lc u e' w' := by
  rcases h with h | ⟨h0, g, D, y, h1, h2, h3, h4, h5, h6, h7⟩
  · exact .inl h
  · refine .inr ⟨h0, g, D, y, h1, h2, h3, h4, by omega, ⟨Nat.lt_of_lt_of_le h6.lt on.size, on.blocks h6.blocks (fun f => by have := hM _ f; omega) h6.lt (fun b q f => by have := hM _ f; omega), fun j hj => ?_⟩, (on.setAt h7 (fun b q f => by have := hM _ f; omega)).weaken (fun b _ q => by omega)⟩
    rw [World.frozen?_of_block (w := w) (on.block g h6.lt (fun f => by have := hM _ f; omega))]
    exact h6.free j hj
def GotS (W wc : World) (n : Nat) (N : Prop) (P : (Nat → Blk) → SetE → Prop) (v9 v10 v11 : Value) : Prop :=
  ∃ (a9 a10 : Nat) (sx : Option Addr) (ln lc : Nat) (u : SetV) (e' : Int), v9 = .pointer (some ⟨a9, 0, none⟩) ∧ v10 = .pointer (some ⟨a10, 0, none⟩) ∧ v11 = .int .i64 e' ∧ CellsAt wc a9 #[.slice sx ln lc] 24 ∧ CellsAt wc a10 #[.string u.name, .slice u.fa u.fn u.fc, .slice u.sa u.sn u.sc] 47 ∧ Below W.heap.size W wc ∧ W.heap.size ≤ a9 ∧ W.heap.size ≤ a10 ∧ CaseS W.heap.size n N P sx ln lc u e' wc
section
variable {W w6 : World} {n base : Nat} {N : Prop} {P : (Nat → Blk) → SetE → Prop} {sx : Option Addr} {ln lc : Nat} {u : SetV} {e' : Int}
theorem gots_cab (bb : Below W.heap.size W w6) (h : CaseS base n N P sx ln lc u e' w6) (hb : W.heap.size ≤ base) : GotS W ((w6.alloc (objS sx ln lc)).alloc (objX u)) n N P (.pointer (some ⟨w6.heap.size, 0, none⟩)) (.pointer (some ⟨w6.heap.size + 1, 0, none⟩)) (.int .i64 e') :=
  ⟨_, _, sx, ln, lc, u, e', rfl, rfl, rfl, (cellsAt_alloc w6 _ _).below (below_alloc _ _), cellsAt_alloc2 w6 _ _ _, Below.tr bb (below_two _ _ _), bb.size, by have := bb.size; omega, h.only (Only.of_below (M := fun _ => False) (below_two _ _ _)) (fun _ m => m.elim) hb⟩
theorem gots_cba (bb : Below W.heap.size W w6) (h : CaseS base n N P sx ln lc u e' w6) (hb : W.heap.size ≤ base) : GotS W ((w6.alloc (objX u)).alloc (objS sx ln lc)) n N P (.pointer (some ⟨w6.heap.size + 1, 0, none⟩)) (.pointer (some ⟨w6.heap.size, 0, none⟩)) (.int .i64 e') :=
  ⟨_, _, sx, ln, lc, u, e', rfl, rfl, rfl, cellsAt_alloc2 w6 _ _ _, (cellsAt_alloc w6 _ _).below (below_alloc _ _), Below.tr bb (below_two _ _ _), by have := bb.size; omega, bb.size, h.only (Only.of_below (M := fun _ => False) (below_two _ _ _)) (fun _ m => m.elim) hb⟩
theorem gots_acb {a : Nat} {c0 : Value} (ha : W.heap.size ≤ a) (hab : a < base) (ka : CellsAt w6 a #[c0] 24) (bb : Below W.heap.size W w6) (h : CaseS base n N P sx ln lc u e' w6) (hb : W.heap.size ≤ base) : GotS W ((w6.setCell ⟨a, 0, none⟩ (.slice sx ln lc)).alloc (objX u)) n N P (.pointer (some ⟨a, 0, none⟩)) (.pointer (some ⟨w6.heap.size, 0, none⟩)) (.int .i64 e') := by
  have kk := kept_putS w6 a (.slice sx ln lc)
  have k3 : CellsAt ((w6.setCell ⟨a, 0, none⟩ (.slice sx ln lc)).alloc (objX u)) w6.heap.size #[.string u.name, .slice u.fa u.fn u.fc, .slice u.sa u.sn u.sc] 47 := by
    have := cellsAt_alloc (w6.setCell ⟨a, 0, none⟩ (.slice sx ln lc)) #[.string u.name, .slice u.fa u.fn u.fc, .slice u.sa u.sn u.sc] 47
    rwa [kk.size] at this
  exact ⟨_, _, sx, ln, lc, u, e', rfl, rfl, rfl, (cells_putS ka).below (below_alloc _ _), k3, Below.tr (bb.trans (kk.below ha)) (below_alloc _ _), ha, bb.size, h.only ((Only.of_kept (M := fun b => b = a) kk rfl).trans (Only.of_below (below_alloc _ _))) (fun b m => by subst m; exact hab) hb⟩
theorem gots_bca {a : Nat} {c0 c1 c2 : Value} (ha : W.heap.size ≤ a) (hab : a < base) (ka : CellsAt w6 a #[c0, c1, c2] 47) (bb : Below W.heap.size W w6) (h : CaseS base n N P sx ln lc u e' w6) (hb : W.heap.size ≤ base) : GotS W ((putX w6 a u).alloc (objS sx ln lc)) n N P (.pointer (some ⟨w6.heap.size, 0, none⟩)) (.pointer (some ⟨a, 0, none⟩)) (.int .i64 e') := by
  have kk := kept_putX w6 a u
  have k3 : CellsAt ((putX w6 a u).alloc (objS sx ln lc)) w6.heap.size #[.slice sx ln lc] 24 := by
    have := cellsAt_alloc (putX w6 a u) #[.slice sx ln lc] 24
    rwa [kk.size] at this
  exact ⟨_, _, sx, ln, lc, u, e', rfl, rfl, rfl, k3, (cells_putX ka).below (below_alloc _ _), Below.tr (bb.trans (kk.below ha)) (below_alloc _ _), bb.size, ha, h.only ((Only.of_kept (M := fun b => b = a) kk rfl).trans (Only.of_below (below_alloc _ _))) (fun b m => by subst m; exact hab) hb⟩
theorem gots_abc {a b : Nat} {c0 d0 d1 d2 : Value} (ha : W.heap.size ≤ a) (hb : W.heap.size ≤ b) (hne : a ≠ b) (hab : a < base) (hbb : b < base) (ka : CellsAt w6 a #[c0] 24) (kb : CellsAt w6 b #[d0, d1, d2] 47) (bb : Below W.heap.size W w6) (h : CaseS base n N P sx ln lc u e' w6) (hbs : W.heap.size ≤ base) : GotS W (putX (w6.setCell ⟨a, 0, none⟩ (.slice sx ln lc)) b u) n N P (.pointer (some ⟨a, 0, none⟩)) (.pointer (some ⟨b, 0, none⟩)) (.int .i64 e') := by
  have k1 := kept_putS w6 a (.slice sx ln lc)
  have k2 := kept_putX (w6.setCell ⟨a, 0, none⟩ (.slice sx ln lc)) b u
  have o1 := Only.of_kept (M := fun k => k = a ∨ k = b) k1 (.inl rfl)
  have o2 := Only.of_kept (M := fun k => k = a ∨ k = b) k2 (.inr rfl)
  exact ⟨_, _, sx, ln, lc, u, e', rfl, rfl, rfl, (Only.of_kept (M := fun k => k = b) k2 rfl).cells (cells_putS ka) hne, cells_putX ((Only.of_kept (M := fun k => k = a) k1 rfl).cells kb hne.symm), (bb.trans (k1.below ha)).trans (k2.below hb), ha, hb, h.only (o1.trans o2) (fun k m => by
    rcases m with m | m
    · omega
    · omega) hbs⟩
end
theorem RetDid.case {w w' : World} {n : Nat} {B : Nat → Blk} {key : Int} {x : SetE} {a : AskE} {cc : Int} {e : Ending} (h : RetDid w n B key x a cc e w') : Below w.heap.size w w' ∧ ∃ (sx : Option Addr) (ln lc : Nat) (u : SetV) (e' : Int), e = .returned (.tuple #[.agg #[.slice sx ln lc], .agg #[.string u.name, .slice u.fa u.fn u.fc, .slice u.sa u.sn u.sc], .int .i64 e']) ∧ CaseS w.heap.size n (SetOk n B key x → HeldR n B (rootsX x) → ChgNo n B key x a) (fun D y => SetOk n B key x ∧ HeldR n B (rootsX x) ∧ Did n B key x a cc D y) sx ln lc u e' w' := by
  obtain ⟨b, h⟩ := h
  refine ⟨b, ?_⟩
  rcases h with ⟨e', rfl, h1, h2⟩ | ⟨g, D, v, y, rfl, h1, h2, h3, h4, h5⟩
  · exact ⟨none, 0, 0, ⟨ByteArray.mk #[], none, 0, 0, none, 0, 0⟩, e', rfl, .inl ⟨h1, h2⟩⟩
  · exact ⟨_, n, n, v, 0, rfl, .inr ⟨rfl, g, D, y, rfl, rfl, rfl, ⟨h1, h2, h3⟩, h4.1, h4.2, h5⟩⟩
theorem RetCl.case {w w' : World} {n : Nat} {B : Nat → Blk} {key : Int} {x : SetE} {cc : Int} {e : Ending} (h : RetCl w n B key x cc e w') : Below w.heap.size w w' ∧ ∃ (sx : Option Addr) (ln lc : Nat) (u : SetV) (e' : Int), e = .returned (.tuple #[.agg #[.slice sx ln lc], .agg #[.string u.name, .slice u.fa u.fn u.fc, .slice u.sa u.sn u.sc], .int .i64 e']) ∧ CaseS w.heap.size n True (fun C y => SetOk n B key x ∧ HeldR n B (rootsX x) ∧ ∃ K, Grow n B C K ∧ (∀ r : Int, r ≠ 0 → (rootsX y).count r = K.count r) ∧ SetOk n C key y ∧ HeldR n C (rootsX y) ∧ ClF n B C x y) sx ln lc u e' w' := by
  obtain ⟨b, h⟩ := h
  refine ⟨b, ?_⟩
  rcases h with ⟨e', rfl, h1⟩ | ⟨g, C, u, y, K, rfl, h1, h2, h3, h4, h5, h6, h7, h8, h9, h10⟩
  · exact ⟨none, 0, 0, ⟨ByteArray.mk #[], none, 0, 0, none, 0, 0⟩, e', rfl, .inl ⟨h1, trivial⟩⟩
  · exact ⟨_, n, n, u, 0, rfl, .inr ⟨rfl, g, C, y, rfl, rfl, rfl, ⟨h1, h2, K, h3, h4, h5, h6, h7⟩, h9.1, h9.2, h10⟩⟩
end Go.Proofs.YtnmcgmpmcliinaaGreat
