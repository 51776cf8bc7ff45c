/-
  SndO, SndP in one text. Nothing here is trusted.
-/
import Derived.Test.YtnmcgmpmcliinaaGreatPart33
import Derived.Test.YtnmcgmpmcliinaaGreatPart16
import Derived.Deep.RegionHeld3
import Derived.Test.YtnmcgmpmcliinaaGreatPart17
set_option linter.unusedVariables false
namespace Go.Proofs.YtnmcgmpmcliinaaGreat
open Go.RowKit

/-- how a file comes to be another one -/
def sizedL (old : List Ent) (e : Ent) : List DifE := if (look old e.name).isNone ∨ sizeO (look old e.name) ≠ e.size then [⟨2, e.name, e.size, []⟩] else []
def difOf (nm : ByteArray) (W : List Int) (r : Nat × Nat) : DifE := ⟨3, nm, (r.1 : Int), (W.drop r.1).take (r.2 - r.1)⟩
def fileW (key : Int) (B : Nat → Blk) (e : Ent) : List Int := (fileL key (leafAt B 3 e.root)).take e.size.toNat
def runsOf (B : Nat → Blk) (old : List Ent) (e : Ent) : List (Nat × Nat) := runsL (diffTo B 3 (rootO (look old e.name)) e.root 64) e.size.toNat
def turnedL (key : Int) (B : Nat → Blk) (old : List Ent) (e : Ent) : List DifE := sizedL old e ++ (runsOf B old e).map (difOf e.name (fileW key B e))
theorem diffs_nat (B : Nat → Blk) (a b : Int) : diffs B 3 a b 0 = (diffTo B 3 a b 64).map fun j : Nat => (j : Int) := by
  have e : pw 3 = 64 := by decide
  unfold diffs
  rw [e]
  exact List.map_congr_left (fun j _ => by simp)
theorem diffTo_lt (B : Nat → Blk) (l : Nat) (a b : Int) (k : Nat) : ∀ p ∈ diffTo B l a b k, p < k := fun p hp => List.mem_range.1 (List.mem_filter.1 hp).1
theorem diffTo_rise (B : Nat → Blk) (l : Nat) (a b : Int) (k : Nat) : (diffTo B l a b k).Pairwise (· < ·) := List.Pairwise.filter _ List.pairwise_lt_range
theorem diffTo_len (B : Nat → Blk) (l : Nat) (a b : Int) (k : Nat) : (diffTo B l a b k).length ≤ k := by
  have := List.length_filter_le (fun j => decide (leafAt B l a j ≠ leafAt B l b j)) (List.range k)
  rw [List.length_range] at this
  exact this
/-- each run has bytes, within the size -/
theorem runs_in (s : Nat) : ∀ (ps : List Nat) (l : List (Nat × Nat)), (∀ r ∈ l, r.1 < r.2 ∧ r.2 ≤ s) → ∀ r ∈ ps.foldl (runStep s) l, r.1 < r.2 ∧ r.2 ≤ s
  | [], l, h => h
  | p :: ps, l, h => by
    rw [List.foldl_cons]
    refine runs_in s ps _ ?_
    unfold runStep
    by_cases h0 : s ≤ 4 * p
    · rw [if_pos h0]; exact h
    · rw [if_neg h0]
      rcases List.eq_nil_or_concat l with rfl | ⟨l0, r, hlr⟩
      · intro r hr
        simp at hr
        subst hr
        show 4 * p < min (4 * p + 4) s ∧ min (4 * p + 4) s ≤ s
        omega
      · rw [List.concat_eq_append] at hlr
        subst hlr
        have hgl : (l0 ++ [r]).getLast? = some r := by simp
        rw [hgl]
        have hr0 := h r (by simp)
        simp only [List.dropLast_concat]
        split
        · intro q hq
          rcases List.mem_append.1 hq with hq | hq
          · exact h q (List.mem_append_left _ hq)
          · rw [List.mem_singleton.1 hq]
            show r.1 < min (4 * p + 4) s ∧ min (4 * p + 4) s ≤ s
            omega
        · intro q hq
          rcases List.mem_append.1 hq with hq | hq
          · exact h q hq
          · rw [List.mem_singleton.1 hq]
            show 4 * p < min (4 * p + 4) s ∧ min (4 * p + 4) s ≤ s
            omega
theorem runsL_in {ps : List Nat} {s : Nat} : ∀ r ∈ runsL ps s, r.1 < r.2 ∧ r.2 ≤ s := runs_in s ps [] (fun r hr => by simp at hr)
theorem runs_len (s : Nat) : ∀ (ps : List Nat) (l : List (Nat × Nat)), (ps.foldl (runStep s) l).length ≤ l.length + ps.length
  | [], l => Nat.le_refl _
  | p :: ps, l => by
    rw [List.foldl_cons]
    have h1 := runs_len s ps (runStep s l p)
    have h2 : (runStep s l p).length ≤ l.length + 1 := by
      unfold runStep
      split
      · omega
      · rcases List.eq_nil_or_concat l with rfl | ⟨l0, r, hlr⟩
        · simp
        · rw [List.concat_eq_append] at hlr
          subst hlr
          have hgl : (l0 ++ [r]).getLast? = some r := by simp
          rw [hgl]
          simp only [List.dropLast_concat]
          split <;> simp
    rw [List.length_cons]
    omega
theorem runsL_len (ps : List Nat) (s : Nat) : (runsL ps s).length ≤ ps.length := by
  have := runs_len s ps []
  simpa [runsL] using this
theorem cloneMore_any (a : Option Addr) (n c : Nat) (l : List Int) (Q : Nat → Prop) (w : World) (hn : n ≤ 1000) (h : NumsAt Q .u8 w a n l) :
    Calls Tryz.prog 76 #[.slice a n c] w fun e w' =>
      Below w.heap.size w w' ∧ ∃ a' c', e = .returned (.slice a' n c') ∧ n ≤ c' ∧ NumsAt (fun b => w.heap.size ≤ b) .u8 w' a' n l := by
  obtain ⟨i0, hi, hz0, hz1, hz2⟩ := info_parts Tryz.infoByte
  have qn : ∀ (w : World) (a : Option Addr) (n c n' c' : Nat), (binOp .eql 28 (.slice a n c) (.slice none n' c')).run Tryz.prog w = .ok (.bool a.isNone) w := fun w a n c n' c' => Lib.run_eql_slice_nil w _ _ a n c n' c' Tryz.underlying28
  cases a with
  | none =>
    have hn0 : n = 0 := by
      rcases Nat.eq_zero_or_pos n with h0 | h0
      · exact h0
      · obtain ⟨_, _, h1, _⟩ := h.2.2 h0
        cases h1
    subst hn0
    have hl := h.1
    replace h := hid h
    go_enter Tryz.func76, Tryz.ntmps76
    go_wp2_with fail
    go_ret
    exact ⟨Below.refl _ _, _, _, rfl, Nat.le_refl _, by rw [List.eq_nil_of_length_eq_zero hl]; exact numsAt_nil _ _ _ _⟩
  | some x =>
    have hl := h.1
    have hcn : ∀ j u, (l.map (Value.int .u8))[j]? = some u → (w.alloc (.cells #[] 5)).cell? (x.add j) = some u := by
      intro j u hj
      have hjl : j < l.length := by
        rcases Nat.lt_or_ge j l.length with h | h
        · exact h
        · simp [List.getElem?_eq_none h] at hj
      obtain ⟨b, off, he, hb, _, hc⟩ := h.2.2 (by omega)
      obtain rfl : x = ⟨b, off, none⟩ := by simpa using he
      have ea : (⟨b, off, none⟩ : Addr).add j = ⟨b, off + j, none⟩ := by unfold Addr.add; split <;> simp_all
      rw [ea, World.cell?_alloc_past _ _ _ hb, hc j (by omega)]
      simp [hjl] at hj
      simp [List.getD, hjl, hj]
    have A := hid hcn
    have hwf := hid h.2.1
    replace hl := hid hl
    clear hcn h
    go_enter Tryz.func76, Tryz.ntmps76
    go_wp2_with (at_builtin; refine wpList_append_own _ rfl _ _ 28 rfl w.heap.size 5 i0 (.int .u8 0) 1 1 Tryz.underlying28 hi hz0 hz1 hz2 rfl (by decide) _ _ _ rfl (World.ownsRow_made w #[] 0 (Nat.le_refl _) (Nat.zero_le _) (by simp)) x n c (l.map (Value.int .u8)) rfl ?qc1 ?qc2 ?qc3 ?qc4 ?qc5 ?qc6 ?_)
    case qc1 => simp [hl.out]
    case qc2 => exact A.out
    case qc3 => intro u hu; simp at hu; obtain ⟨x, _, rfl⟩ := hu; rfl
    case qc4 => unfold maxLen; omega
    case qc5 => omega
    case qc6 => simp
    intro v' w1 hown hgrow hnil
    have hown' : w1.ownsRow w.heap.size 5 1 v' n (l.map (Value.int .u8)) := by simpa using hown
    have hbel := ((Below.refl _ w).alloc (Nat.le_refl _) _).grown hgrow (by simp) (by intro k hk; simp [Value.ownBlock] at hk; omega)
    clear hown hgrow A hnil
    obtain ⟨a', c', rfl, hnc, hN⟩ := numsAt_own hwf.out hown'
    replace hN := hid hN
    clear hown'
    go_wp2_with fail
    go_ret
    exact ⟨hbel, a', c', rfl, hnc, hN.out⟩

theorem only_hop {w6 w9 w7 : World} {p q : Option Nat} (h : Only (fun b => p = some b) w6 w9) (g : Only (fun b => q = some b) w9 w7) (hl : q = p ∨ ∃ g, q = some g ∧ w6.heap.size ≤ g) : Only (fun b => p = some b) w6 w7 :=
  ⟨g.os.trans h.os, g.tape.trans h.tape, g.output.trans h.output, Nat.le_trans h.size g.size, fun k hk hm => (g.block k (Nat.lt_of_lt_of_le hk h.size) (fun e => by
    rcases hl with hl | ⟨g', hl, hge⟩
    · exact hm (hl ▸ e)
    · rw [hl] at e; cases e; omega)).trans (h.block k hk hm)⟩
/-- what stands in turned's loop -/
structure TuI (w2 w6 : World) (ul : Value) (wr : World) (u : Value) (ns : List DifM) : Prop where
  row : DRow w2.heap.size wr u ns
  bel : Below w2.heap.size w2 wr
  only : Only (fun b => ul.ownBlock = some b) w6 wr
  lies : u.ownBlock = ul.ownBlock ∨ ∃ g, u.ownBlock = some g ∧ w6.heap.size ≤ g
theorem TuI.step {w2 w6 : World} {ul : Value} {wr : World} {u : Value} {ns : List DifM} (h : TuI w2 w6 ul wr u ns) {w9 : World} (b9 : Below wr.heap.size wr w9) {ca : Option Addr} {m cc : Nat} {d : DifE} (hN : NumsAt (fun b => wr.heap.size ≤ b) .u8 w9 ca m d.bytes) (hc : m ≤ cc) (hs : d.name.size ≤ maxLen) (hk : I64 d.kind) (hn : I64 d.num) (hl : ns.length ≤ 1000) :
    ∃ v7 w7, (Builtin.append_ #[53, 53] 53 #[u, .slice (some ⟨w9.heap.size, 0, none⟩) 1 1]).run Tryz.prog (w9.alloc (.cells #[.int .i64 d.kind, .string d.name, .int .i64 d.num, .slice ca m cc] 104)) = .ok v7 w7 ∧ TuI w2 w6 ul w7 v7 (ns ++ [⟨d, ca, m, cc⟩]) ∧ ∀ p : Addr, p.block < w9.heap.size → (p.block < w2.heap.size ∨ wr.heap.size ≤ p.block) → w7.cell? p = w9.cell? p := by
  have bG := below_alloc w9 (.cells #[.int .i64 d.kind, .string d.name, .int .i64 d.num, .slice ca m cc] 104)
  have kg := cellsAt_alloc w9 #[.int .i64 d.kind, .string d.name, .int .i64 d.num, .slice ca m cc] 104
  have h2r := h.bel.size
  have hlt : ∀ b, u.ownBlock = some b → b < wr.heap.size := fun b hb => (h.row.row.lt b hb).2
  obtain ⟨v7, w7, hrun, hD7, b7, on7, hl7⟩ := (h.row.below b9).push (Nat.le_trans h2r b9.size) bG ⟨d, ca, m, cc⟩ w9.heap.size kg ⟨(hN.below bG).weaken (fun b _ q => ⟨by omega, fun f => by have := hlt b f; omega⟩), hc, hs, hk, hn⟩ hl 53
  have hge : ∀ b, u.ownBlock = some b → w2.heap.size ≤ b := fun b hb => (h.row.row.lt b hb).1
  refine ⟨v7, w7, hrun, ⟨hD7, (h.bel.trans (b9.mono h2r)).trans b7, only_hop (h.only.trans (Only.of_below b9)) on7 h.lies, ?_⟩, fun p hp hq => on7.cell hp (fun f => by have h1 := hlt _ f; have h2 := hge _ f; omega)⟩
  rcases hl7 with e | ⟨g, e, hg⟩
  · rw [e]; exact h.lies
  · exact .inr ⟨g, e, Nat.le_trans h.only.size (Nat.le_trans b9.size hg)⟩

/-- what turned answers -/
def RetTu (base : Nat) (e : Ending) (w : World) (n : Nat) (B : Nat → Blk) (key : Int) (old : List Ent) (x : Ent) : Prop :=
  (∃ e' : Int, e = .returned (.tuple #[.slice none 0 0, .int .i64 e']) ∧ e' ≠ 0 ∧ ¬ (Checked n B (rootO (look old x.name)) 3 0 ∧ FileOk n B key x.root x.size)) ∨
  (∃ (v : Value) (ms : List DifM), e = .returned (.tuple #[v, .int .i64 0]) ∧ DRow base w v ms ∧ ms.map (·.e) = turnedL key B old x ∧ FileOk n B key x.root x.size ∧ ms.length ≤ 65)

set_option maxHeartbeats 4000000 in
set_option maxRecDepth 100000 in
theorem turned_any (a : Option Addr) (n c : Nat) (B : Nat → Blk) (key : Int) (Q : Nat → Prop) (oa : Option Addr) (on oc : Nat) (old : List Ent) (x : Ent) (w : World) (h : StoreAt w a n B) (ho : EntsAt Q w oa on old) (hon : on ≤ 900) (hx : x.ok) :
    Calls Tryz.prog 39 #[.agg #[.slice a n c], .int .i64 key, .slice oa on oc, .agg #[.string x.name, .int .i64 x.root, .int .i64 x.size]] w fun e w' => RetTu w.heap.size e w' n B key old x ∧ Below w.heap.size w w' := by
  have b0 := below_two w (.cells #[.slice a n c] 24) (.cells #[.string x.name, .int .i64 x.root, .int .i64 x.size] 62)
  have k0 : CellsAt _ w.heap.size #[.slice a n c] 24 := (cellsAt_alloc w _ _).below (below_alloc _ (.cells #[.string x.name, .int .i64 x.root, .int .i64 x.size] 62))
  have k1 : CellsAt _ (w.heap.size + 1) #[.string x.name, .int .i64 x.root, .int .i64 x.size] 62 := cellsAt_alloc2 w (.cells #[.slice a n c] 24) _ _
  have hsz : ((w.alloc (.cells #[.slice a n c] 24)).alloc (.cells #[.string x.name, .int .i64 x.root, .int .i64 x.size] 62)).heap.size = w.heap.size + 2 := by simp
  replace h := hid (h.below b0)
  replace ho := hid (ho.below b0)
  replace k0 := hid k0
  replace k1 := hid k1
  replace b0 := hid b0
  replace hsz := hid hsz
  replace hx := hid hx
  go_enter Tryz.func39, Tryz.ntmps39
  go_wp2_with fail
  generalize (w.alloc (.cells #[.slice a n c] 24)).alloc (.cells #[.string x.name, .int .i64 x.root, .int .i64 x.size] 62) = w0 at *
  refine (sfind_any Q oa on oc old x.name w0 (by omega) ho.out).mono ?_
  rintro e w1 ⟨rfl, b1⟩
  have kx := k1.out.below b1
  have e0 := kx.cell 0
  have e1 := kx.cell 1
  have e2 := kx.cell 2
  simp at e0 e1 e2
  have bF := below_alloc w1 (.cells #[.int .i64 (rootO (look old x.name)), .int .i64 (sizeO (look old x.name))] 60)
  have kf := cellsAt_alloc w1 #[.int .i64 (rootO (look old x.name)), .int .i64 (sizeO (look old x.name))] 60
  have b2 := hid (Below.tr b1 bF)
  have g0 := (kx.below bF).cell 0
  have g1 := (kx.below bF).cell 1
  have g2 := (kx.below bF).cell 2
  have f0 := kf.cell 0
  have f1 := kf.cell 1
  simp at g0 g1 g2 f0 f1
  clear kx b1
  replace bF := hid bF
  replace kf := hid kf
  generalize hr0 : rootO (look old x.name) = r0 at *
  generalize hs0 : sizeO (look old x.name) = s0 at *
  generalize hth : (look old x.name).isSome = th at *
  replace hr0 := hid hr0
  have hbad : Hid (sizedL old x = if th = false ∨ s0 ≠ x.size then [⟨2, x.name, x.size, []⟩] else []) := hid (by
    unfold sizedL
    rw [hs0]
    have : (look old x.name).isNone = !th := by rw [← hth]; cases look old x.name <;> rfl
    rw [this]
    cases th <;> simp)
  clear hs0 hth
  go_upto_region 3 with fail
  go_cut [34] from 25 (fun v34 wc => v34 = .bool (decide (th = false ∨ s0 ≠ x.size)) ∧ wc = w1.alloc (.cells #[.int .i64 r0, .int .i64 s0] 60))
  case first =>
    cases th
    · go_wp2_with fail
      go_meet
      exact ⟨by simp, rfl⟩
    · by_cases hys : s0 = x.size
      · have hb2 : (s0 == x.size) = true := by simp [hys]
        replace hys := hid hys
        go_wp2_with fail
        go_meet
        exact ⟨by simp [hys.out], rfl⟩
      · have hb2 : (s0 == x.size) = false := by simp [hys]
        go_wp2_with fail
        go_meet
        exact ⟨by simp [hys], rfl⟩
  case rest =>
    obtain ⟨rfl, rfl⟩ := hcut
    go_upto_if 34 with fail
    have hw2 : Hid (w1.heap.size + 1 = (w1.alloc (.cells #[.int .i64 r0, .int .i64 s0] 60)).heap.size) := hid (by simp)
    generalize w1.alloc (.cells #[.int .i64 r0, .int .i64 s0] 60) = w2 at *
    go_cut [10] from 25 (fun v10 wc => ∃ ms : List DifM, DRow w2.heap.size wc v10 ms ∧ ms.map (·.e) = sizedL old x ∧ Below w2.heap.size w2 wc ∧ ms.length ≤ 1)
    case first =>
      by_cases hc : th = false ∨ s0 ≠ x.size
      · rw [decide_eq_true hc]
        rw [if_pos hc] at hbad
        have bG := below_alloc w2 (.cells #[.int .i64 2, .string x.name, .int .i64 x.size, .slice none 0 0] 104)
        have kg := cellsAt_alloc w2 #[.int .i64 2, .string x.name, .int .i64 x.size, .slice none 0 0] 104
        obtain ⟨v7, w7, hrun, hD7, b7, _, _⟩ := (DRow.nil w2.heap.size w2).push (Nat.le_refl _) bG ⟨⟨2, x.name, x.size, []⟩, none, 0, 0⟩ w2.heap.size kg (dif_at0 _ _ 2 x.name x.size hx.out.1 (by unfold I64; omega) hx.out.2.2) (by simp) 53
        replace hD7 := hid hD7
        replace b7 := hid b7
        replace bG := hid bG
        replace kg := hid kg
        replace hc := hid hc
        go_wp2_with (at_builtin; refine Lib.wpList_append_run _ rfl _ _ _ _ rfl _ _ rfl rfl _ _ hrun ?_)
        clear hrun
        go_wp2_with fail
        go_meet
        exact ⟨_, hD7.out, by rw [hbad.out]; rfl, b7.out, by simp⟩
      · rw [decide_eq_false hc]
        rw [if_neg hc] at hbad
        replace hc := hid hc
        go_wp2_with fail
        go_meet
        exact ⟨[], DRow.nil _ _, by rw [hbad.out]; rfl, Below.refl _ _, by simp⟩
    case rest =>
      obtain ⟨ms, hD, hms, b3, hml⟩ := hcut
      have b23 := hid (Below.tr b2.out b3)
      have hS3 := hid (h.out.below b23.out)
      have ks := (k0.out.below b23.out).cell 0
      have kx3 := k1.out.below b23.out
      have x0 := kx3.cell 0
      have x1 := kx3.cell 1
      have x2 := kx3.cell 2
      have hkf := kf.out.below b3
      have y0 := hkf.cell 0
      simp at ks x0 x1 x2 y0
      obtain ⟨ua, uc, hu, _, _⟩ := hD.val
      subst hu
      replace hD := hid hD
      replace hms := hid hms
      replace b3 := hid b3
      replace kx3 := hid kx3
      clear hkf e0 e1 e2 g0 g1 g2 f0 f1
      go_wp2_with fail
      refine (treeDiffer_any a n c B r0 x.root 3 wc hS3.out).mono ?_
      rintro e w4 ⟨hdr, b4⟩
      rcases hdr with ⟨e', rfl, he, hno⟩ | ⟨l, va, vn, vc, rfl, hl3, hl, hR, hrx, hry, hN⟩
      · have hbb : (e' == 0) = false := by simp [he]
        have hfin := hid (Below.tr b0.out (Below.tr b23.out b4))
        replace hno := hid hno
        replace he := hid he
        go_wp2_with fail
        go_ret2
        exact ⟨.inl ⟨e', rfl, he.out, fun f => hno.out ⟨hr0.out ▸ f.1, f.2.checked⟩⟩, hfin.out⟩
      · obtain rfl : l = 3 := by omega
        rw [diffs_nat] at hN
        have hD4 := hid (hD.out.below b4)
        have hS4 := hid (hS3.out.below b4)
        have b24 := hid (Below.tr b23.out b4)
        have ks4 := (k0.out.below b24.out).cell 0
        have kx4 := k1.out.below b24.out
        have z0 := kx4.cell 0
        have z1 := kx4.cell 1
        have z2 := kx4.cell 2
        simp at ks4 z0 z1 z2
        replace hN := hid hN
        replace kx4 := hid kx4
        clear hD hS3 x0 x1 x2 y0 ks hR hrx hry kx3 hl
        go_wp2_with fail
        refine (fileRead_any a n c B key x.root x.size 0 x.size w4 hS4.out).mono ?_
        rintro e w5 ⟨hrd, b5⟩
        rcases hrd with ⟨e', rfl, he, hno⟩ | ⟨xa, ln, lc, rfl, hok, hlc, hNb⟩
        · have hbb : (e' == 0) = false := by simp [he]
          have hfin := hid (Below.tr b0.out (Below.tr b24.out b5))
          replace hno := hid hno
          replace he := hid he
          go_wp2_with fail
          go_ret2
          exact ⟨.inl ⟨e', rfl, he.out, fun f => hno.out ⟨f.2, by omega, f.2.sb⟩⟩, hfin.out⟩
        · have hsb := hok.sb
          obtain ⟨sz, hsz2⟩ : ∃ sz : Nat, x.size = (sz : Int) := ⟨x.size.toNat, by omega⟩
          have hW : readL (fileL key (leafAt B 3 x.root)) x.size.toNat 0 x.size.toNat = fileW key B x := by
            unfold readL fileW
            rw [List.drop_zero, List.take_take, Nat.min_self]
          have e00 : (0 : Int).toNat = 0 := rfl
          rw [e00, hW] at hNb
          have hWl : (fileW key B x).length = x.size.toNat := by
            unfold fileW
            rw [List.length_take, fileL_length]
            omega
          have hln : ln = x.size.toNat := by rw [← hNb.1, hWl]
          have hln256 : ln ≤ 256 := by omega
          have hps := hid (hN.out.below b5)
          have hvn : vn ≤ 64 := by
            have h1 := hN.out.1
            rw [List.length_map] at h1
            have := diffTo_len B 3 r0 x.root 64
            omega
          have hruns : Hid (runsL (diffTo B 3 r0 x.root 64) ln = runsOf B old x) := hid (by unfold runsOf; rw [hr0.out, hln])
          have hD5 := hid (hD4.out.below b5)
          have b25 := hid (Below.tr b24.out b5)
          have hulk : Hid (∀ b, (Value.slice ua ms.length uc).ownBlock = some b → b < w4.heap.size) := hid (fun b hb => (hD4.out.row.lt b hb).2)
          have b35 := hid (Below.tr b3.out (Below.tr b4 b5))
          have hb5s := hid b5.size
          replace hNb := hid hNb
          replace hok := hid hok
          replace hWl := hid hWl
          replace hln := hid hln
          replace hsz2 := hid hsz2
          clear hD4 hS4 hN z0 z1 z2 ks4 kx4 hW hsb e00 b4
          go_wp2_with fail
          refine (runs_any (fun _ => True) va vn vc ln (diffTo B 3 r0 x.root 64) w5 hln256 hps.out (diffTo_lt _ _ _ _ _) (diffTo_rise _ _ _ _ _) hvn).mono ?_
          rintro e w6 ⟨⟨rv, rfl, hrr⟩, b6⟩
          rw [hruns.out] at hrr
          have hRin : Hid (∀ r ∈ runsOf B old x, r.1 < r.2 ∧ r.2 ≤ ln) := hid (by rw [← hruns.out]; exact runsL_in)
          have hRlen : (runsOf B old x).length ≤ 64 := by
            rw [← hruns.out]
            exact Nat.le_trans (runsL_len _ _) (diffTo_len _ _ _ _ _)
          have hfinal : Hid (turnedL key B old x = sizedL old x ++ (runsOf B old x).map (difOf x.name (fileW key B x))) := hid rfl
          generalize runsOf B old x = R at *
          obtain ⟨ra, rc, hrv, _, hrn, hrg⟩ := hrr.val
          subst hrv
          have hD6 := hid (hD5.out.below b6)
          have hNb6 := hid ((hNb.out.weaken (R := fun b => (Value.slice ua ms.length uc).ownBlock ≠ some b) (fun b _ q f => by have := hulk.out b f; omega)).below b6)
          have b36 := hid (Below.tr b35.out b6)
          have hrro : Hid (∀ b, (Value.slice ra R.length rc).ownBlock = some b → ¬ (Value.slice ua ms.length uc).ownBlock = some b) := hid (fun b hb f => by
            have h1 := (hrr.lt b hb).1
            have h2 := hulk.out b f
            have h3 := hb5s.out
            omega)
          have hw62 := hid (Nat.le_trans b35.out.size b6.size)
          replace hrr := hid hrr
          replace hrg := hid hrg
          clear hD5 hNb hruns b5 b6 hps
          go_wp2_with fail
          go_loopw [10, 76] (fun u v wr => ∃ (j : Nat) (ns : List DifM), j ≤ R.length ∧ v = .int .i64 j ∧ TuI w2 w6 (.slice ua ms.length uc) wr u ns ∧ ns.map (·.e) = sizedL old x ++ (R.take j).map (difOf x.name (fileW key B x)) ∧ ns.length ≤ 1 + j) (fun _ v _ => R.length - (Go.RowKit.intOf v).toNat)
          case atStart => exact ⟨0, ms, Nat.zero_le _, rfl, ⟨hD6.out, b36.out, Only.refl _ _, .inl rfl⟩, by rw [hms.out]; simp, hml⟩
          case round =>
            obtain ⟨j, ns, hj, rfl, hT, hns, hnl⟩ := hrel
            obtain ⟨wa, wcap, hu, _, _⟩ := hT.row.val
            subst hu
            have br := hT.bel
            have onr := hT.only
            by_cases hjR : j < R.length
            · have hRr : R[j]? = some R[j] := List.getElem?_eq_getElem hjR
              have hrin := hRin.out R[j] (List.getElem_mem hjR)
              obtain ⟨rg, hra, hrgl, _⟩ := hrg.out (by intro f; rw [f] at hjR; simp at hjR)
              subst hra
              have hrow := onr.row hrr.out hrro.out
              have hcl := RRow.cell (l := R) hrow hjR
              have c0 := hcl.1
              have c1 := hcl.2
              generalize R[j] = r at *
              obtain ⟨r1, r2⟩ := r
              simp only at hrin c0 c1
              obtain ⟨bb, boff, hxa, hbl, _, _⟩ := hNb6.out.2.2 (by omega)
              subst hxa
              have hNr := onr.nums hNb6.out (fun k q f => q f)
              have hpc := hid (hNr.piece (lo := r1) (m := r2 - r1) (by omega))
              have hnx : Hid ((R.take (j + 1)).map (difOf x.name (fileW key B x)) = (R.take j).map (difOf x.name (fileW key B x)) ++ [difOf x.name (fileW key B x) (r1, r2)]) := hid (by
                rw [List.take_add_one, hRr, List.map_append]
                rfl)
              have bB := below_alloc wr (.cells #[.int .i64 (r1 : Int), .int .i64 (r2 : Int)] 140)
              have kx := k1.out.below (b2.out.trans (br.mono b2.out.size))
              have q0 := (kx.below bB).cell 0
              simp at q0
              have hlt1 : (r1 : Int) ≤ (r2 : Int) := by omega
              have hlt2 : (r2 : Int) ≤ (lc : Int) := by omega
              replace hrow := hid hrow
              replace hNr := hid hNr
              replace hT := hid hT
              replace hns := hid hns
              replace kx := hid kx
              replace onr := hid onr
              replace br := hid br
              replace bB := hid bB
              replace hRr := hid hRr
              clear hcl
              have hpc1 := hid (hpc.out.below bB.out)
              have hne : w.heap.size + 1 ≠ wr.heap.size := by
                have h1 := kx.out.lt
                omega
              have Q0 := hid q0
              have hdb : Hid ((difOf x.name (fileW key B x) (r1, r2)).bytes = ((fileW key B x).drop r1).take (r2 - r1)) := hid rfl
              have hlcr : ¬ lc = r1 := by omega
              have kB := hid (cellsAt_alloc wr #[.int .i64 (r1 : Int), .int .i64 (r2 : Int)] 140)
              have K0 := hid (kB.out.cell 0)
              have K1 := hid (kB.out.cell 1)
              have hB1 : Hid (wr.heap.size < (wr.alloc (.cells #[.int .i64 (r1 : Int), .int .i64 (r2 : Int)] 140)).heap.size) := hid (by simp)
              go_upto_region 14 with fail
              go_region_held3 (fun w' => w'.cell? ⟨w.heap.size + 1, 0, none⟩ = some (.string x.name) ∧ w'.cell? ⟨wr.heap.size, 0, none⟩ = some (.int .i64 (r1 : Int)) ∧ w'.cell? ⟨wr.heap.size, 1, none⟩ = some (.int .i64 (r2 : Int))) (first | go_keep | assumption) (first | (refine step_append_run rfl (.tmp 80) (.tmp 93) 53 rfl _ _ _ w7 rfl rfl hrun ?_) | (go_simp; go_at_call 76; refine Calls.mono (cloneMore_any (some ⟨bb, boff + r1, none⟩) (r2 - r1) _ (((fileW key B x).drop r1).take (r2 - r1)) (fun b => (Value.slice ua ms.length uc).ownBlock ≠ some b) _ (by omega) (hpc1.out.below (below_drew _ _))) ?_; rintro e w9 ⟨b9, ca, cc9, rfl, hcc9, hN9⟩; have b19 := Below.tr bB.out (Below.tr (below_drew _ _) b9); have hq9 := (Below.tr (below_drew _ _) b9); obtain ⟨v7, w7, hrun, hT7, hcell7⟩ := hT.out.step b19 (d := difOf x.name (fileW key B x) (r1, r2)) (hN9.weaken (fun b _ q => (by have := bB.out.size; exact Nat.le_trans this q))) hcc9 hx.out.1 (by unfold difOf I64; simp) (by unfold difOf I64; simp; omega) (by omega); have n0 := (hq9.cell (p := ⟨w.heap.size + 1, 0, none⟩) (by simp; have := kx.out.lt; omega)).trans Q0.out; have n1 := (hq9.cell (p := ⟨wr.heap.size, 0, none⟩) hB1.out).trans K0.out; have n2 := (hq9.cell (p := ⟨wr.heap.size, 1, none⟩) hB1.out).trans K1.out; simp only [List.getElem?_toArray, List.getElem?_cons_zero, List.getElem?_cons_succ] at n1 n2; have hz9 := hq9.size; have m0 := (hcell7 ⟨w.heap.size + 1, 0, none⟩ (by have h1 := kx.out.lt; have h2 := b19.size; show w.heap.size + 1 < w9.heap.size; omega) (.inl (by have h1 := k1.out.lt; have h2 := b2.out.size; show w.heap.size + 1 < w2.heap.size; omega))).trans n0; have m1 := (hcell7 ⟨wr.heap.size, 0, none⟩ (by have h1 := hB1.out; show wr.heap.size < w9.heap.size; omega) (.inr (Nat.le_refl _))).trans n1; have m2 := (hcell7 ⟨wr.heap.size, 1, none⟩ (by have h1 := hB1.out; show wr.heap.size < w9.heap.size; omega) (.inr (Nat.le_refl _))).trans n2; replace hT7 := hid hT7; clear b9 hN9 b19 hq9 hcell7 hz9))
              all_goals (go_wp2_with fail; refine ⟨⟨j + 1, _, by omega, by go_num, hT7.out, ?_, ?_⟩, by simp [Go.RowKit.intOf]; omega⟩)
              · rw [hnx.out, List.map_append, hns.out, List.append_assoc]
                rfl
              · rw [List.length_append, List.length_singleton]
                omega
            · obtain rfl : j = R.length := by omega
              rw [List.take_length] at hns
              have hDf := hid (hT.row.base (base' := w.heap.size) (Nat.le_trans b0.out.size b2.out.size))
              have hbf := hid (Below.trans b0.out ((b2.out.trans (br.mono b2.out.size)).mono b0.out.size))
              replace hT := hid hT
              replace hns := hid hns
              go_wp2_with fail
              go_ret2
              exact ⟨.inr ⟨_, ns, rfl, hDf.out, by rw [hns.out, hfinal.out], hok.out, by omega⟩, hbf.out⟩
end Go.Proofs.YtnmcgmpmcliinaaGreat

namespace Go.Proofs.YtnmcgmpmcliinaaGreat
open Go.RowKit

/-- the changes by which a's files come to be b's -/
def diffL (key : Int) (B : Nat → Blk) (a b : List Ent) : List DifE := goneL a b ++ b.flatMap (turnedL key B a)
theorem goneL_len (a b : List Ent) : (goneL a b).length ≤ a.length := by
  unfold goneL
  rw [List.length_map]
  exact List.length_filter_le _ _
theorem flat_next {α β : Type} {f : α → List β} {l : List α} {i : Nat} {x : α} (h : l[i]? = some x) : (l.take (i + 1)).flatMap f = (l.take i).flatMap f ++ f x := by
  obtain ⟨h1, rfl⟩ := List.getElem?_eq_some_iff.1 h
  rw [List.take_add_one, List.getElem?_eq_getElem h1, List.flatMap_append]
  simp
/-- what Diff answers -/
def RetDf (base : Nat) (e : Ending) (w : World) (n : Nat) (B : Nat → Blk) (key : Int) (x y : SetE) : Prop :=
  (∃ e' : Int, e = .returned (.tuple #[.slice none 0 0, .int .i64 e']) ∧ e' ≠ 0 ∧ (SetOk n B key x → SetOk n B key y → 40 < (diffL key B x.files y.files).length)) ∨
  (∃ (v : Value) (ms : List DifM), e = .returned (.tuple #[v, .int .i64 0]) ∧ DRow base w v ms ∧ ms.map (·.e) = diffL key B x.files y.files ∧ SetOk n B key x ∧ SetOk n B key y ∧ ms.length ≤ 40)
theorem index2V (a1 a2 a3 c1 c2 c3 : Value) (w : World) : (Instr.index 95 (.agg #[a1, a2, a3, c1, c2, c3]) (.int .i64 0)).run Tryz.prog w = .ok (.agg #[a1, a2, a3]) w ∧ (Instr.index 95 (.agg #[a1, a2, a3, c1, c2, c3]) (.int .i64 1)).run Tryz.prog w = .ok (.agg #[c1, c2, c3]) w := by
  constructor <;> simp [Instr.index, run_underlying Tryz.underlying95, asIntOf, go_sem]
theorem sz_alloc' (w : World) (o : Obj) : (w.alloc o).heap.size = w.heap.size + 1 := by simp
theorem below_three (w : World) (o q r : Obj) : Below w.heap.size w (((w.alloc o).alloc q).alloc r) := (below_two w o q).alloc (by simp; omega) r

set_option maxHeartbeats 4000000 in
set_option maxRecDepth 100000 in
theorem diff_any (Q : Nat → Prop) (a : Option Addr) (n c : Nat) (B : Nat → Blk) (key : Int) (v : SetV) (x : SetE) (u : SetV) (y : SetE) (w : World) (h : StoreAt w a n B) (hX : SetAt Q w v x) (hY : SetAt Q w u y) :
    Calls Tryz.prog 15 #[.agg #[.slice a n c], .int .i64 key, v.val, u.val] w fun e w' => RetDf w.heap.size e w' n B key x y ∧ Below w.heap.size w w' := by
  have b0 := below_three w (.cells #[.slice a n c] 24) (.cells #[.string v.name, .slice v.fa v.fn v.fc, .slice v.sa v.sn v.sc] 47) (.cells #[.string u.name, .slice u.fa u.fn u.fc, .slice u.sa u.sn u.sc] 47)
  have k0 : CellsAt _ w.heap.size #[.slice a n c] 24 := ((cellsAt_alloc w _ _).below (below_alloc _ (.cells #[.string v.name, .slice v.fa v.fn v.fc, .slice v.sa v.sn v.sc] 47))).below (below_alloc _ (.cells #[.string u.name, .slice u.fa u.fn u.fc, .slice u.sa u.sn u.sc] 47))
  have k1 := (cellsAt_alloc2 w (.cells #[.slice a n c] 24) #[.string v.name, .slice v.fa v.fn v.fc, .slice v.sa v.sn v.sc] 47).below (below_alloc _ (.cells #[.string u.name, .slice u.fa u.fn u.fc, .slice u.sa u.sn u.sc] 47))
  have k2 := cellsAt_alloc ((w.alloc (.cells #[.slice a n c] 24)).alloc (.cells #[.string v.name, .slice v.fa v.fn v.fc, .slice v.sa v.sn v.sc] 47)) #[.string u.name, .slice u.fa u.fn u.fc, .slice u.sa u.sn u.sc] 47
  have hsz : (((w.alloc (.cells #[.slice a n c] 24)).alloc (.cells #[.string v.name, .slice v.fa v.fn v.fc, .slice v.sa v.sn v.sc] 47)).alloc (.cells #[.string u.name, .slice u.fa u.fn u.fc, .slice u.sa u.sn u.sc] 47)).heap.size = w.heap.size + 3 := by simp
  simp only [sz_alloc'] at k2
  replace h := hid (h.below b0)
  replace hX := hid (hX.below b0)
  replace hY := hid (hY.below b0)
  have p0 := k0.cell 0
  have p1 := k1.cell 0
  have p2 := k1.cell 1
  have p3 := k1.cell 2
  have p4 := k2.cell 0
  have p5 := k2.cell 1
  have p6 := k2.cell 2
  simp at p0 p1 p2 p3 p4 p5 p6
  replace b0 := hid b0
  replace k0 := hid k0
  replace k1 := hid k1
  replace k2 := hid k2
  replace hsz := hid hsz
  unfold SetV.val
  go_enter Tryz.func15, Tryz.ntmps15
  go_wp2_with fail
  generalize ((w.alloc (.cells #[.slice a n c] 24)).alloc (.cells #[.string v.name, .slice v.fa v.fn v.fc, .slice v.sa v.sn v.sc] 47)).alloc (.cells #[.string u.name, .slice u.fa u.fn u.fc, .slice u.sa u.sn u.sc] 47) = w0 at *
  clear p0 p1 p2 p3 p4 p5 p6
  go_loopw [21] (fun s wr => ∃ j : Nat, j ≤ 2 ∧ s = .int .i64 j ∧ Below w0.heap.size w0 wr ∧ (1 ≤ j → SetOk n B key x) ∧ (2 ≤ j → SetOk n B key y)) (fun s _ => 2 - (Go.RowKit.intOf s).toNat)
  case atStart => exact ⟨0, Nat.zero_le _, rfl, Below.refl _ _, fun h => absurd h (by omega), fun h => absurd h (by omega)⟩
  case round =>
    obtain ⟨j, hj2, rfl, bw, h1, h2⟩ := hrel
    replace h1 := hid h1
    replace h2 := hid h2
    have p0 := (k0.out.below bw).cell 0
    simp at p0
    rcases (show j = 0 ∨ j = 1 ∨ j = 2 by omega) with rfl | rfl | rfl
    · have hix := fun w => (index2V (.string v.name) (.slice v.fa v.fn v.fc) (.slice v.sa v.sn v.sc) (.string u.name) (.slice u.fa u.fn u.fc) (.slice u.sa u.sn u.sc) w).1
      have bA := below_alloc wr (.cells #[.string v.name, .slice v.fa v.fn v.fc, .slice v.sa v.sn v.sc] 47)
      have p1 := ((k0.out.below bw).below bA).cell 0
      simp at p1
      have hb1 := hid (Below.tr bw bA)
      replace bA := hid bA
      go_wp2_with fail
      refine (setCheck_any Q a n c B key v x _ (h.out.below hb1.out) (hX.out.below hb1.out)).mono ?_
      rintro e w1 ⟨⟨e1, rfl, he⟩, b1⟩
      have hb2 := Below.tr hb1.out b1
      by_cases h0 : e1 = 0
      · have h0' : (e1 == 0) = true := by simp [h0]
        have hok := hid (he.1 h0)
        clear he
        go_wp2_with fail
        go_roundw
        case rel => exact ⟨1, by omega, by go_num, hb2, fun _ => hok.out, fun f => absurd f (by omega)⟩
        case measure => simp [Go.RowKit.intOf]
      · have h0' : (e1 == 0) = false := by simp [h0]
        have hno := hid (fun f : SetOk n B key x => h0 (he.2 f))
        clear he
        go_wp2_with fail
        go_ret2
        exact ⟨.inl ⟨e1, rfl, h0, fun f => absurd f hno.out⟩, Below.tr b0.out hb2⟩
    · have hix := fun w => (index2V (.string v.name) (.slice v.fa v.fn v.fc) (.slice v.sa v.sn v.sc) (.string u.name) (.slice u.fa u.fn u.fc) (.slice u.sa u.sn u.sc) w).2
      have bA := below_alloc wr (.cells #[.string u.name, .slice u.fa u.fn u.fc, .slice u.sa u.sn u.sc] 47)
      have p1 := ((k0.out.below bw).below bA).cell 0
      simp at p1
      have hb1 := hid (Below.tr bw bA)
      have hokx := hid (h1.out (by omega))
      replace bA := hid bA
      go_wp2_with fail
      refine (setCheck_any Q a n c B key u y _ (h.out.below hb1.out) (hY.out.below hb1.out)).mono ?_
      rintro e w1 ⟨⟨e1, rfl, he⟩, b1⟩
      have hb2 := Below.tr hb1.out b1
      by_cases h0 : e1 = 0
      · have h0' : (e1 == 0) = true := by simp [h0]
        have hok := hid (he.1 h0)
        clear he
        go_wp2_with fail
        go_roundw
        case rel => exact ⟨2, by omega, by go_num, hb2, fun _ => hokx.out, fun _ => hok.out⟩
        case measure => simp [Go.RowKit.intOf]
      · have h0' : (e1 == 0) = false := by simp [h0]
        have hno := hid (fun f : SetOk n B key y => h0 (he.2 f))
        clear he
        go_wp2_with fail
        go_ret2
        exact ⟨.inl ⟨e1, rfl, h0, fun _ f => absurd f hno.out⟩, Below.tr b0.out hb2⟩
    · have hokx := hid (h1.out (by omega))
      have hoky := hid (h2.out (by omega))
      have k1w := k1.out.below bw
      have k2w := k2.out.below bw
      have p2 := k1w.cell 1
      have p5 := k2w.cell 1
      simp at p2 p5
      have hfx := hid ((hX.out.below bw).files)
      have hfy := hid ((hY.out.below bw).files)
      have hln : Hid (v.fn ≤ 6) := hid (by have h3 := hX.out.files.1; have h4 := hokx.out.shape.few; omega)
      have hlu : Hid (u.fn ≤ 6) := hid (by have h3 := hY.out.files.1; have h4 := hoky.out.shape.few; omega)
      replace k1w := hid k1w
      replace k2w := hid k2w
      replace bw := hid bw
      clear h1 h2
      go_wp2_with fail
      refine (gone_any Q Q v.fa v.fn v.fc x.files u.fa u.fn u.fc y.files wr (by have := hln.out; omega) (by have := hlu.out; omega) hfx.out hfy.out).mono ?_
      rintro e w1 ⟨⟨gv, gs, rfl, hG, hGe⟩, b1⟩
      have hGl : gs.length ≤ 6 := by
        have h3 : gs.length = (goneL x.files y.files).length := by rw [← hGe, List.length_map]
        have h4 := goneL_len x.files y.files
        have h5 := hokx.out.shape.few
        omega
      obtain ⟨ga, gc, hgv, _, _⟩ := hG.val
      subst hgv
      have hb2 := hid (Below.tr bw.out b1)
      replace hG := hid (hG.base bw.out.size)
      replace hGe := hid hGe
      have p6 := (k2.out.below hb2.out).cell 1
      simp at p6
      clear hfx p2 p5 p0
      go_wp2_with fail
      have hb2' := hb2.out
      go_loopw [13, 40] (fun r s wq => ∃ (i : Nat) (ms : List DifM), i ≤ u.fn ∧ s = .int .i64 i ∧ Below w0.heap.size w0 wq ∧ DRow w0.heap.size wq r ms ∧ ms.map (·.e) = goneL x.files y.files ++ (y.files.take i).flatMap (turnedL key B x.files) ∧ ms.length ≤ 6 + 65 * i) (fun _ s _ => u.fn - (Go.RowKit.intOf s).toNat)
      case atStart => exact ⟨0, gs, Nat.zero_le _, rfl, hb2', hG.out, by rw [hGe.out]; simp, by omega⟩
      case round =>
        clear hb2' p6
        obtain ⟨i, ms, hin, rfl, bq, hD, hms, hml⟩ := hrel
        obtain ⟨ua, uc, hu, _, _⟩ := hD.val
        subst hu
        have hlu' := hlu.out
        by_cases hlt : i < u.fn
        · have hE := (hY.out.below bq).files
          have hyl := hE.1
          obtain ⟨b, off, hfa, hb, _, hc⟩ := hE.2.2 (by omega)
          have hz := hc i hlt
          have c0 := hz.c0
          have c1 := hz.c1
          have c2 := hz.c2
          have hil : i < y.files.length := by omega
          have hxe : y.files[i]? = some (y.files.getD i Ent.zero) := by simp [List.getD, hil]
          have hzok := hid (hE.2.1 _ (hE.getD hlt))
          have hzf : Hid (FileOk n B key (y.files.getD i Ent.zero).root (y.files.getD i Ent.zero).size) := hid (hoky.out.ents _ (List.mem_append_left _ (hE.getD hlt)))
          rw [hfa] at *
          clear hE hc hz
          generalize y.files.getD i Ent.zero = z at *
          have hchk : Hid (Checked n B (rootO (look x.files z.name)) 3 0) := hid (by
            cases hlk : look x.files z.name with
            | none => exact (fileOk_zero (size := 0) hokx.out.right hokx.out.kb (by omega)).1.checked
            | some q => exact (hokx.out.ents q (List.mem_append_left _ (look_mem hlk).1)).checked)
          have bE := below_alloc wr (.cells #[.string z.name, .int .i64 z.root, .int .i64 z.size] 62)
          have hbE := hid (Below.tr bq bE)
          have kz := cellsAt_alloc wr #[.string z.name, .int .i64 z.root, .int .i64 z.size] 62
          have q0 := (k0.out.below hbE.out).cell 0
          have q1 := (k1.out.below hbE.out).cell 1
          simp at q0 q1
          have hfe := hid (hX.out.below hbE.out).files
          have hS := hid (h.out.below hbE.out)
          have hDE := hid (hD.below bE)
          have hln' := hln.out
          have hnx := hid (flat_next (f := turnedL key B x.files) hxe)
          replace hD := hid hD
          replace hms := hid hms
          replace kz := hid kz
          replace bE := hid bE
          replace hxe := hid hxe
          go_wp2_with fail
          refine (turned_any a n c B key Q v.fa v.fn v.fc x.files z _ hS.out hfe.out (by omega) hzok.out).mono ?_
          rintro e w9 ⟨hT, b9⟩
          rcases hT with ⟨e', rfl, he, hno⟩ | ⟨tv, ts, rfl, hTr, hTe, _, hTl⟩
          · exact absurd ⟨hchk.out, hzf.out⟩ hno
          · obtain ⟨v7, w7, hrun, hD7, b7, _, _⟩ := hDE.out.join hbE.out.size b9 hTr (Nat.le_refl _) (by omega) (by omega) 53
            obtain ⟨ta, tc, htv, _, _⟩ := hTr.val
            subst htv
            obtain ⟨a7, c7, hv7, _, _⟩ := hD7.val
            rw [List.length_append] at hv7
            subst hv7
            have bf := hid (hbE.out.trans b7)
            replace hD7 := hid hD7
            replace hTe := hid hTe
            clear b9 hTr b7 hS hfe
            go_wp2_with (at_builtin; refine Lib.wpList_append_run _ rfl _ _ _ _ rfl _ _ rfl rfl _ _ hrun ?_)
            clear hrun
            go_wp2_with fail
            go_roundw
            case rel => exact ⟨i + 1, ms ++ ts, by omega, by go_num, bf.out, by have := hD7.out; rw [List.length_append] at *; exact this, by rw [List.map_append, hms.out, hTe.out, hnx.out, List.append_assoc], by rw [List.length_append]; omega⟩
            case measure => simp [Go.RowKit.intOf]; omega
        · obtain rfl : i = u.fn := by omega
          have htk : y.files.take u.fn = y.files := List.take_of_length_le (by rw [(hY.out).files.1]; exact Nat.le_refl _)
          rw [htk] at hms
          have hms2 : Hid (ms.map (·.e) = diffL key B x.files y.files) := hid hms
          have hDf := hid (hD.base (base' := w.heap.size) b0.out.size)
          have hbf := hid (Below.tr b0.out bq)
          replace hD := hid hD
          clear hms
          by_cases h40 : 40 < ms.length
          · have hc40 : (40 : Int) < (ms.length : Int) := by omega
            go_wp2_with fail
            go_ret2
            exact ⟨.inl ⟨2, rfl, by omega, fun _ _ => by rw [← hms2.out, List.length_map]; exact h40⟩, hbf.out⟩
          · have hc40 : ¬ ((40 : Int) < (ms.length : Int)) := by omega
            go_wp2_with fail
            go_ret2
            exact ⟨.inr ⟨_, ms, rfl, hDf.out, hms2.out, hokx.out, hoky.out, by omega⟩, hbf.out⟩
end Go.Proofs.YtnmcgmpmcliinaaGreat
