/-
  Contract of file.turn. Nothing here is trusted.
-/
import Derived.Test.YtaagnojdpediladFileG
import Derived.Lib.Bytes
set_option linter.unusedVariables false
namespace Go.Proofs.Ytaagnojdpedilad
open Go.RowKit

theorem str_ne {l k : List Int} (hl : Bytes l) (hk : Bytes k) (h : l ≠ k) : ((strOfNums l).toList == (strOfNums k).toList) = false := by
  rw [Lib.strOfNums_toList, Lib.strOfNums_toList]
  simp only [beq_eq_false_iff_ne, ne_eq]
  intro e
  apply h
  have hlen : l.length = k.length := by have := congrArg List.length e; rwa [Lib.bytesOf_length, Lib.bytesOf_length] at this
  apply List.ext_getElem hlen
  intro i h1 h2
  have e1 : (Lib.bytesOf l)[i]? = (Lib.bytesOf k)[i]? := by rw [e]
  have b1 := hl l[i] (List.getElem_mem h1)
  have b2 := hk k[i] (List.getElem_mem h2)
  simp [Lib.bytesOf, h1, h2] at e1
  have e2 := congrArg UInt8.toNat e1
  simp at e2
  omega
theorem bytesEqual_no (a1 a2 : Option Addr) (n c m d : Nat) (Q1 Q2 : Nat → Prop) (l k : List Int) (w : World) (hne : l ≠ k) (h1 : NumsAt Q1 .u8 w a1 n l) (h2 : NumsAt Q2 .u8 w a2 m k) :
    Calls Try.prog 31 #[.slice a1 n c, .slice a2 m d] w fun e w' => e = .returned (.bool false) ∧ w' = w := by
  have g1 := run_string_of w c h1
  have g2 := run_string_of w d h2
  have hs := str_ne h1.bytes h2.bytes hne
  clear h1 h2 hne
  go_enter Try.func31, Try.ntmps31
  go_wp2
  go_ret
  exact ⟨rfl, rfl⟩

theorem results_cells2 {fn : Func} {p q u : Tmp} {ty tz : TypeId} (h : fn.results = #[.cell p ty, .cell q tz, .tmp u]) (tmps : Array Value) (P : Program) (w : World) :
    (results fn tmps).run P w =
      ((asAddr (tmps.getD p undef)).run P w).andThen fun a w₁ => ((loadVar ty a).run P w₁).andThen fun x w₂ => ((asAddr (tmps.getD q undef)).run P w₂).andThen fun b w₃ => ((loadVar tz b).run P w₃).andThen fun y w₄ => .ok (.tuple #[x, y, tmps.getD u undef]) w₄ := by
  simp only [results, h]
  simp [Sem.run_bind, Result.andThen]

/-- what turn keeps in memory -/
structure TU (W wr : World) (q h n : Nat) (C : Nat → Blk) (V : List Int) (g : Nat) : Prop where
  bel : Below W.heap.size W wr
  own : CellsAt wr q #[.slice (some ⟨g, 0, none⟩) n n] 24
  st : Own wr g n C
  row : CellsAt wr h (V.map (Value.int .u8)).toArray 5
  r10 : CellsAt wr (W.heap.size + 1) #[.slice none 0 0] 24
  r11 : CellsAt wr (W.heap.size + 1 + 1) #[.int .i64 0, .int .i64 0] 26
  gb : W.heap.size + 3 ≤ g
  qb : W.heap.size + 3 ≤ q ∧ W.heap.size + 3 ≤ h ∧ h ≠ q
theorem TU.below {W wr w' : World} {q h n : Nat} {C : Nat → Blk} {V : List Int} {g : Nat} (t : TU W wr q h n C V g) (b : Below wr.heap.size wr w') : TU W w' q h n C V g :=
  ⟨Below.tr t.bel b, t.own.below b, t.st.below b, t.row.below b, t.r10.below b, t.r11.below b, t.gb, t.qb⟩
theorem TU.turn {W wr w' : World} {q h n : Nat} {C E : Nat → Blk} {V : List Int} {g g' : Nat} (t : TU W wr q h n C V g) (b : Below wr.heap.size wr w') (hg : wr.heap.size ≤ g') (hE : Own w' g' n E) : TU W (w'.setCell ⟨q, 0, none⟩ (.slice (some ⟨g', 0, none⟩) n n)) q h n E V g' := by
  have t' := t.below b
  have hq := t.own.lt
  have hqb := t.qb
  have kk := Kept.setCell (g := q) (Kept.refl _ w') (p := ⟨q, 0, none⟩) rfl (.slice (some ⟨g', 0, none⟩) n n)
  refine ⟨t'.bel.setCell (show W.heap.size ≤ q by omega) _, by simpa using t'.own.set 0 _, hE.kept (by omega) kk, t'.row.past (a := ⟨q, 0, none⟩) (by show h ≠ q; omega) _, t'.r10.past (a := ⟨q, 0, none⟩) (by show W.heap.size + 1 ≠ q; omega) _, t'.r11.past (a := ⟨q, 0, none⟩) (by show W.heap.size + 1 + 1 ≠ q; omega) _, by have := t.bel.size; have := t.gb; have := t.st.lt; omega, t.qb⟩

/-- what turn answers -/
def RetT (base : Nat) (e : Ending) (w : World) (n : Nat) (B : Nat → Blk) (key root : Int) (O N : List Int) (cc : Int) : Prop :=
  ∃ (x : Option Addr) (ln lc : Nat) (ra rs e' : Int), e = .returned (.tuple #[.agg #[.slice x ln lc], .agg #[.int .i64 ra, .int .i64 rs], .int .i64 e']) ∧
    ((x = none ∧ ln = 0 ∧ lc = 0 ∧ ra = 0 ∧ rs = 0 ∧ e' = 8 ∧ n < usedTo B n + 4 * chg O (padTo N) 64) ∨
     (e' = 0 ∧ ∃ (g : Nat) (C : Nat → Blk), x = some ⟨g, 0, none⟩ ∧ ln = n ∧ lc = n ∧ rs = (N.length : Int) ∧ base ≤ g ∧ Own w g n C ∧ TurnAt n B C key root O (padTo N) 64 ra cc))

theorem chg_step {O V : List Int} {j : Nat} (hj : j < 64) (e : chunk O j ≠ chunk V j) : chg O V j + 1 ≤ chg O V 64 := by
  have h1 := chg_mono O V (show j + 1 ≤ 64 by omega)
  have h2 : chg O V (j + 1) = chg O V j + 1 := by simp [chg, e]
  omega

set_option maxHeartbeats 8000000 in
set_option maxRecDepth 100000 in
theorem turn_any (a : Option Addr) (n c : Nat) (B : Nat → Blk) (key root : Int) (ob oo : Nat) (O : List Int) (na : Option Addr) (nn nc : Nat) (N : List Int) (cc : Int) (w : World) (h : StoreAt w a n B) (hR : Right n B) (hr : Root n B 3 root) (hk : 0 ≤ key ∧ key ≤ 1000)
    (hO : NumsAt (fun _ => True) .u8 w (some ⟨ob, oo, none⟩) 256 O) (hN : NumsAt (fun _ => True) .u8 w na nn N) (hnn : nn ≤ 256) (h1 : 64 ≤ cc) (hcm : cc ≤ 999936) (hc : ∀ k, k < n → (B k).refs ≤ cc) :
    Calls Try.prog 16 #[.agg #[.slice a n c], .int .i64 key, .int .i64 root, .slice (some ⟨ob, oo, none⟩) 256 256, .slice na nn nc] w fun e w' => RetT w.heap.size e w' n B key root O N cc ∧ Below w.heap.size w w' := by
  obtain ⟨i0, hi0, hz0, hz1, hz2⟩ := info_parts Try.infoByte
  have b0 : Below w.heap.size w _ := (below_two w (.cells #[.slice a n c] 24) (.cells #[.slice none 0 0] 24)).alloc (by simp; omega) (.cells #[.int .i64 0, .int .i64 0] 26)
  have ks : PtrAt _ ⟨w.heap.size, 0, none⟩ a n c B := ((ptr_boxed a n c B w 24 h).below (below_alloc _ (.cells #[.slice none 0 0] 24))).below (below_alloc _ (.cells #[.int .i64 0, .int .i64 0] 26))
  have k10 : CellsAt _ (w.heap.size + 1) #[.slice none 0 0] 24 := (cellsAt_alloc2 w (.cells #[.slice a n c] 24) _ _).below (below_alloc _ (.cells #[.int .i64 0, .int .i64 0] 26))
  have k11 : CellsAt _ (w.heap.size + 1 + 1) _ _ := cellsAt_alloc3 w (.cells #[.slice a n c] 24) (.cells #[.slice none 0 0] 24) #[.int .i64 0, .int .i64 0] 26
  have hsz : w.heap.size + 3 = (((w.alloc (.cells #[.slice a n c] 24)).alloc (.cells #[.slice none 0 0] 24)).alloc (.cells #[.int .i64 0, .int .i64 0] 26)).heap.size := by simp
  have hn := hR.small
  have hF : Hid (∀ i, i < n → (B i).kids.length ≤ 4 ∧ (B i).bytes.length ≤ 4) := hid fun i hi => ⟨(hR.one i hi).few, (hR.one i hi).few2⟩
  have hrd : root = 0 ∨ ∃ m : Nat, root = (m : Int) + 1 := by
    rcases hr with h0 | ⟨⟨h1, _, _⟩, _⟩
    · exact .inl h0
    · exact .inr ⟨(root - 1).toNat, by omega⟩
  have hnl := hN.1
  have hNb := hN.bytes
  have hsplice := hid (splice_pad (N := N) (by omega))
  have hpl := hid (padTo_length (N := N) (by omega))
  have hVb := hid (padTo_bytes hNb)
  have hone := hid (one_map N)
  have hNm : Hid ((N.map (Value.int .u8)).length = nn) := hid (by rw [List.length_map, hnl])
  have hzl : Hid (((zeros 256).map (Value.int .u8)).length = 256) := hid (by rw [List.length_map, zeros_length])
  have hsrc : Hid (∀ w', Below w.heap.size w w' → 0 < nn → ∃ ad, na = some ad ∧ ∀ j v, (N.map (Value.int .u8))[j]? = some v → w'.cell? (ad.add j) = some v) := hid fun w' hw hp => by
    have := hN.below hw
    obtain ⟨q, off, rfl, _⟩ := this.2.2 hp
    exact ⟨_, rfl, src_map this hp⟩
  replace hk := hid hk
  replace hnl := hid hnl
  replace hO := hid hO
  replace hc := hid hc
  replace hR := hid hR
  replace hr := hid hr
  replace hrd := hid hrd
  replace b0 := hid b0
  replace ks := hid ks
  replace k10 := hid k10
  replace k11 := hid k11
  replace hsz := hid hsz
  clear hN hNb h
  go_enter Try.func16, Try.ntmps16
  go_wp2_with fail
  generalize (((w.alloc (.cells #[.slice a n c] 24)).alloc (.cells #[.slice none 0 0] 24)).alloc (.cells #[.int .i64 0, .int .i64 0] 26)) = w0 at *
  refine (copy_any ⟨w.heap.size, 0, none⟩ a n c B w0 ks.out hn hF.out).mono ?_
  rintro e w2 ⟨b2, g, rfl, hg, hOwn⟩
  have hgl := hOwn.lt
  have hsz0 := hsz.out
  have bA := below_alloc w2 (.cells #[.slice (some ⟨g, 0, none⟩) n n] 24)
  have kq := cellsAt_alloc w2 #[.slice (some ⟨g, 0, none⟩) n n] 24
  have b03 := Below.tr b0.out (Below.tr b2 bA)
  have k10' := k10.out.below (Below.tr b2 bA)
  have k11' := k11.out.below (Below.tr b2 bA)
  have hP : OwnPtr (w2.alloc (.cells #[.slice (some ⟨g, 0, none⟩) n n] 24)) ⟨w2.heap.size, 0, none⟩ g n B := ⟨kq.lt, by show w2.heap.size ≠ g; omega, by simp, hOwn.below bA⟩
  have hs2 := b2.size
  replace kq := hid kq
  replace b03 := hid b03
  replace k10' := hid k10'
  replace k11' := hid k11'
  replace hP := hid hP
  clear hOwn bA b2 b0 ks k10 k11 hsz hF
  rcases hrd.out with h0 | ⟨m, h0⟩
  · subst h0
    have hT0 : Hid (TurnAt n B B key 0 O (padTo N) 0 0 cc) := hid (turnAt_zero hR.out hc.out)
    have hst := hid hP.out.own
    obtain ⟨C0, hC0⟩ : ∃ C0, C0 = B := ⟨_, rfl⟩
    replace hT0 : Hid (TurnAt n B C0 key 0 O (padTo N) 0 0 cc) := hid (hC0 ▸ hT0.out)
    replace hst : Hid (Own (w2.alloc (.cells #[.slice (some ⟨g, 0, none⟩) n n] 24)) g n C0) := hid (hC0 ▸ hst.out)
    clear hC0 hP
    go_upto_region 6 with fail
    generalize w2.alloc (.cells #[.slice (some ⟨g, 0, none⟩) n n] 24) = w4 at *
    have hw4 : w.heap.size ≤ w4.heap.size := b03.out.size
    have hq4 := kq.out.lt
    go_wp2_with (at_make; refine wpList_make_full _ rfl (.const (.int .i64 256)) (.const (.int .i64 256)) 28 rfl w4.heap.size 5 i0 (.int .u8 0) 1 Try.underlying28 hi0 hz0 hz1 .i64 .i64 256 256 256 rfl rfl rfl rfl (by rw [hz2]; omega) (by unfold maxLen; omega) (Nat.le_refl _) ?_; intro w5 hown hgr; have hc5 := made_zero hown; have b5 : Below w4.heap.size w4 w5 := ⟨hgr.os, hgr.tape, hgr.output, hgr.size, fun k hk => hgr.block k hk (by simp)⟩; clear hown hgr; obtain ⟨w6, hr6, hc6, b6⟩ := copy_run (off := 0) (dLen := 256) (dCap := 256) (sLen := nn) (sCap := nc) (m := nn) _ _ hc5 hNm.out (show nn = min nn 256 by omega) (hsrc.out w5 (Below.tr b03.out b5)) (by rw [hzl.out]; omega) hone.out b5 (Nat.le_refl _); rw [hsplice.out] at hc6; have hTU : Hid (TU w w6 w2.heap.size w4.heap.size n C0 (padTo N) g) := hid ⟨Below.tr b03.out b6, kq.out.below b6, hst.out.below b6, hc6, k10'.out.below b6, k11'.out.below b6, by omega, by omega, by omega, by omega⟩; clear hc5 b5 hc6 b6)
    clear hr6 kq k10' k11' hst b03 hw4
    go_loopw [2, 34] (fun u v wr => ∃ (j : Nat) (a' : Int) (C : Nat → Blk) (g' : Nat), j ≤ 64 ∧ v = .int .i64 j ∧ u = .int .i64 a' ∧ TU w wr w2.heap.size w4.heap.size n C (padTo N) g' ∧ TurnAt n B C key 0 O (padTo N) j a' cc) (fun _ v _ => 64 - (Go.RowKit.intOf v).toNat)
    case atStart => exact ⟨0, 0, C0, g, Nat.zero_le _, rfl, rfl, hTU.out, hT0.out⟩
    case round =>
      clear hTU hT0
      obtain ⟨j, a', C, g', hj64, rfl, rfl, hE, hT⟩ := hrel
      by_cases hlt : j < 64
      · have hrow := nums_of_cells (Q := fun _ => True) trivial hVb.out hE.row
        rw [hpl.out] at hrow
        have hwc : Hid (∀ off ln : Nat, off = 4 * j → ln = 4 → NumsAt (fun _ => True) .u8 wr (some ⟨w4.heap.size, off, none⟩) ln (chunk (padTo N) j)) := hid fun off ln e1 e2 => by
          subst e1; subst e2
          have := hrow.piece (lo := 4 * j) (m := 4) (by omega)
          rwa [Nat.zero_add] at this
        have hoc : Hid (∀ off ln : Nat, off = oo + 4 * j → ln = 4 → NumsAt (fun _ => True) .u8 wr (some ⟨ob, off, none⟩) ln (chunk O j)) := hid fun off ln e1 e2 => by
          subst e1; subst e2
          exact (hO.out.below hE.bel).piece (lo := 4 * j) (m := 4) (by omega)
        replace hE := hid hE
        replace hT := hid hT
        clear hrow
        by_cases heq : chunk O j = chunk (padTo N) j
        · have hE' : Hid (∀ nq, TU w (wr.drewN nq) w2.heap.size w4.heap.size n C (padTo N) g') := hid fun nq => hE.out.below (below_drewN _ _ _)
          have hT' := hid (hT.out.same hlt heq)
          go_wp2_with fail
          go_quiet (first | (go_at_call 31; refine Calls.quiet_of_same (bytesEqual_same _ _ _ _ _ _ (fun _ => True) (fun _ => True) (chunk (padTo N) j) _ ?_ ?_); exact heq ▸ (hoc.out _ _ (by omega) (by omega)).below (below_drewN _ _ _); exact (hwc.out _ _ (by omega) (by omega)).below (below_drewN _ _ _)))
          go_wp2_with fail
          go_roundw
          case rel => exact ⟨j + 1, a', C, g', by omega, by go_num, rfl, hE'.out _, hT'.out⟩
          case measure => simp [Go.RowKit.intOf]; omega
        · replace heq := hid heq
          go_wp2_with fail
          go_quiet (first | (go_at_call 31; refine Calls.quiet_of_same (bytesEqual_no _ _ _ _ _ _ (fun _ => True) (fun _ => True) (chunk O j) (chunk (padTo N) j) _ heq.out ?_ ?_); exact (hoc.out _ _ (by omega) (by omega)).below (below_drewN _ _ _); exact (hwc.out _ _ (by omega) (by omega)).below (below_drewN _ _ _)))
          replace hE := hE.out.below (below_drewN _ _ nq)
          replace hwc : Hid (∀ off ln : Nat, off = 4 * j → ln = 4 → NumsAt (fun _ => True) .u8 (wr.drewN nq) (some ⟨w4.heap.size, off, none⟩) ln (chunk (padTo N) j)) := hid fun off ln e1 e2 => (hwc.out off ln e1 e2).below (below_drewN _ _ _)
          clear hoc
          generalize wr.drewN nq = w7 at *
          have s7 := hE.own.cell 0
          simp at s7
          replace hE := hid hE
          have e4 : (j + 1) * 4 - j * 4 = 4 := by omega
          have hcg := chg_le O (padTo N) j
          have hTt := hT.out.turned
          have hcc1 : Hid (1 ≤ cc + 48) := hid (by omega)
          have hcc2 : Hid (cc + 48 ≤ 999984) := hid (by omega)
          have hd7 : Hid (∀ (m : Nat) (D : Nat → Blk) (a'' : Int), a' = (m : Int) + 1 → PutOk n C 3 a' j (leafFor key j (chunk (padTo N) j)) (cc + 48) D a'' → Droppable n D ((m : Int) + 1)) := hid fun m D a'' e hp => by
            subst e
            exact hTt.droppable hR.out hp
          have hlf : Hid (∀ (E : Nat → Blk) (a'' : Int), LeafTurned n C key a' j (chunk (padTo N) j) (cc + 48) E a'' → TurnAt n B E key 0 O (padTo N) (j + 1) a'' cc) := hid fun E a'' ⟨D, hp, hor⟩ => by
            rcases hor with ⟨e, rfl⟩ | ⟨m, e, hRE, hFE⟩
            · subst e; exact hT.out.step0 hR.out h1 hlt heq.out hp
            · subst e; exact hT.out.step hR.out h1 hlt heq.out hp hRE hFE
          have hfull : Hid (n ≤ usedTo C n + 3 → n < usedTo B n + 4 * chg O (padTo N) 64) := hid fun f => by
            have h2 := chg_step hlt heq.out
            have h3 := hT.out.used
            omega
          replace hTt := hid hTt
          clear hcg
          go_upto_region 14 with fail
          go_region_with (go_at_call 32; refine (turnLeaf_any (some ⟨g', 0, none⟩) n n C key a' j _ _ (chunk (padTo N) j) (cc + 48) _ ?_ hTt.out.right hTt.out.root hlt hk.out ?_ hcc1.out hcc2.out hTt.out.few hd7.out).mono ?_; exact hE.out.st.store.below (below_drew _ _); exact (hwc.out _ _ (by omega) rfl).below (below_drew _ _); rintro e w8 ⟨⟨x, ln, lc, a8, e8, rfl, hcase⟩, b8⟩; have bb8 : Below w7.heap.size w7 w8 := (below_drew _ _).trans b8; have t8 := hE.out.below bb8; have hqb := t8.qb; have m8 := t8.own.cell 0; have f8 := t8.own.frozen 0; simp at m8; replace hcase := hid hcase; replace bb8 := hid bb8; replace t8 := hid t8; clear b8)
          all_goals (
            rcases hcase.out with ⟨rfl, rfl, rfl, rfl, rfl, hus⟩ | ⟨rfl, g8, E, rfl, rfl, rfl, hLT, hg8, hOw⟩
            · have hno := hid (hfull.out hus)
              have r10 := t8.out.r10.past (a := ⟨w2.heap.size, 0, none⟩) (show w.heap.size + 1 ≠ w2.heap.size by omega) (.slice none 0 0)
              have r11 := t8.out.r11.past (a := ⟨w2.heap.size, 0, none⟩) (show w.heap.size + 1 + 1 ≠ w2.heap.size by omega) (.slice none 0 0)
              have bz := t8.out.bel.setCell (p := ⟨w2.heap.size, 0, none⟩) (show w.heap.size ≤ w2.heap.size by omega) (.slice none 0 0)
              clear hcase hus m8 f8
              generalize w8.setCell ⟨w2.heap.size, 0, none⟩ (.slice none 0 0) = w9 at *
              have q1 := r10.cell 0
              have q2 := r10.frozen 0
              have q3 := r11.cell 0
              have q4 := r11.frozen 0
              have q5 := r11.cell 1
              have q6 := r11.frozen 1
              simp at q1 q3 q5
              replace bz := hid bz
              clear r10 r11
              go_wp2_with fail
              refine bodyPost_ret (v := .tuple #[.agg #[.slice none 0 0], .agg #[.int .i64 0, .int .i64 0], .int .i64 8]) (by rw [results_cells2 rfl]; go_simp) rfl ⟨⟨none, 0, 0, 0, 0, 8, rfl, .inl ⟨rfl, rfl, rfl, rfl, rfl, rfl, hno.out⟩⟩, ((bz.out.setCell (show w.heap.size ≤ w.heap.size + 1 by omega) _).setCell (show w.heap.size ≤ w.heap.size + 1 + 1 by omega) _).setCell (show w.heap.size ≤ w.heap.size + 1 + 1 by omega) _⟩
            · have hT9 := hid (hlf.out E a8 hLT)
              have hE9 := hid (hE.out.turn bb8.out hg8 hOw)
              clear hcase hLT hOw m8 f8
              go_wp2_with fail
              go_roundw
              case rel => exact ⟨j + 1, a8, E, g8, by omega, by go_num, rfl, hE9.out, hT9.out⟩
              case measure => simp [Go.RowKit.intOf]; omega)
      · obtain rfl : j = 64 := by omega
        have hfin : Hid (RetT w.heap.size (.returned (.tuple #[.agg #[.slice (some ⟨g', 0, none⟩) n n], .agg #[.int .i64 a', .int .i64 nn], .int .i64 0])) (((wr.setCell ⟨w.heap.size + 1, 0, none⟩ (.slice (some ⟨g', 0, none⟩) n n)).setCell ⟨w.heap.size + 1 + 1, 0, none⟩ (.int .i64 a')).setCell ⟨w.heap.size + 1 + 1, 1, none⟩ (.int .i64 nn)) n B key 0 O N cc) := hid (by
          have hgb := hE.gb
          have o1 := hE.st.kept (q := w.heap.size + 1) (by omega) (Kept.setCell (Kept.refl _ wr) (p := ⟨w.heap.size + 1, 0, none⟩) rfl (.slice (some ⟨g', 0, none⟩) n n))
          have o2 := o1.kept (q := w.heap.size + 1 + 1) (by omega) (Kept.setCell (Kept.refl _ _) (p := ⟨w.heap.size + 1 + 1, 0, none⟩) rfl (.int .i64 a'))
          have o3 := o2.kept (q := w.heap.size + 1 + 1) (by omega) (Kept.setCell (Kept.refl _ _) (p := ⟨w.heap.size + 1 + 1, 1, none⟩) rfl (.int .i64 nn))
          exact ⟨_, n, n, a', nn, 0, rfl, .inr ⟨rfl, g', C, rfl, rfl, rfl, by rw [hnl.out], by omega, o3, hT⟩⟩)
        have s1 := hE.own.cell 0
        have q1 := hE.r10.cell 0
        have q2 := hE.r10.frozen 0
        have q3 := hE.r11.cell 0
        have q4 := hE.r11.frozen 0
        have q5 := hE.r11.cell 1
        have q6 := hE.r11.frozen 1
        simp at s1 q1 q3 q5
        have bz := hid hE.bel
        clear hE hT
        go_wp2_with fail
        refine bodyPost_ret (v := .tuple #[.agg #[.slice (some ⟨g', 0, none⟩) n n], .agg #[.int .i64 a', .int .i64 nn], .int .i64 0]) (by rw [results_cells2 rfl]; go_simp) rfl ⟨hfin.out, ((bz.out.setCell (show w.heap.size ≤ w.heap.size + 1 by omega) _).setCell (show w.heap.size ≤ w.heap.size + 1 + 1 by omega) _).setCell (show w.heap.size ≤ w.heap.size + 1 + 1 by omega) _⟩
  · subst h0
    have hm0 : (((m : Int) + 1) == 0) = false := by simp; omega
    have hkp : Hid (Keepable n B ((m : Int) + 1)) := hid ⟨hR.out, by
      rcases hr.out with h | ⟨h, _⟩
      · omega
      · exact h⟩
    have hT0 : Hid (TurnAt n B (keptB B ((m : Int) + 1)) key ((m : Int) + 1) O (padTo N) 0 ((m : Int) + 1) cc) := hid (turnAt_kept hR.out hr.out (by omega) hc.out)
    go_wp2_with fail
    generalize w2.alloc (.cells #[.slice (some ⟨g, 0, none⟩) n n] 24) = w3 at *
    refine (keep_any ⟨w2.heap.size, 0, none⟩ g n B ((m : Int) + 1) w3 hP.out).mono ?_
    rintro e w4 ⟨hK, hOut⟩
    rcases hK with ⟨e', _, _, hno⟩ | ⟨rfl, _, C0, hPC, hC0⟩
    · exact absurd hkp.out hno
    rw [← hC0] at hT0
    have hst := hid hPC.own
    replace kq : Hid (CellsAt w4 w2.heap.size #[.slice (some ⟨g, 0, none⟩) n n] 24) := hid (by unfold CellsAt; rw [hOut.block _ kq.out.lt (by omega)]; exact kq.out)
    replace k10' : Hid (CellsAt w4 (w.heap.size + 1) #[.slice none 0 0] 24) := hid (by unfold CellsAt; rw [hOut.block _ k10'.out.lt (by omega)]; exact k10'.out)
    replace k11' : Hid (CellsAt w4 (w.heap.size + 1 + 1) #[.int .i64 0, .int .i64 0] 26) := hid (by unfold CellsAt; rw [hOut.block _ k11'.out.lt (by omega)]; exact k11'.out)
    replace b03 : Hid (Below w.heap.size w w4) := hid (b03.out.trans (hOut.below (B := w.heap.size) (by omega) (by have := b03.out.size; omega)))
    clear hC0 hP hPC hOut hkp
    have hw4 : w.heap.size ≤ w4.heap.size := b03.out.size
    have hq4 := kq.out.lt
    go_wp2_with (at_make; refine wpList_make_full _ rfl (.const (.int .i64 256)) (.const (.int .i64 256)) 28 rfl w4.heap.size 5 i0 (.int .u8 0) 1 Try.underlying28 hi0 hz0 hz1 .i64 .i64 256 256 256 rfl rfl rfl rfl (by rw [hz2]; omega) (by unfold maxLen; omega) (Nat.le_refl _) ?_; intro w5 hown hgr; have hc5 := made_zero hown; have b5 : Below w4.heap.size w4 w5 := ⟨hgr.os, hgr.tape, hgr.output, hgr.size, fun k hk => hgr.block k hk (by simp)⟩; clear hown hgr; obtain ⟨w6, hr6, hc6, b6⟩ := copy_run (off := 0) (dLen := 256) (dCap := 256) (sLen := nn) (sCap := nc) (m := nn) _ _ hc5 hNm.out (show nn = min nn 256 by omega) (hsrc.out w5 (Below.tr b03.out b5)) (by rw [hzl.out]; omega) hone.out b5 (Nat.le_refl _); rw [hsplice.out] at hc6; have hTU : Hid (TU w w6 w2.heap.size w4.heap.size n C0 (padTo N) g) := hid ⟨Below.tr b03.out b6, kq.out.below b6, hst.out.below b6, hc6, k10'.out.below b6, k11'.out.below b6, by omega, by omega, by omega, by omega⟩; clear hc5 b5 hc6 b6)
    clear hr6 kq k10' k11' hst b03 hw4
    go_loopw [2, 34] (fun u v wr => ∃ (j : Nat) (a' : Int) (C : Nat → Blk) (g' : Nat), j ≤ 64 ∧ v = .int .i64 j ∧ u = .int .i64 a' ∧ TU w wr w2.heap.size w4.heap.size n C (padTo N) g' ∧ TurnAt n B C key ((m : Int) + 1) O (padTo N) j a' cc) (fun _ v _ => 64 - (Go.RowKit.intOf v).toNat)
    case atStart => exact ⟨0, (m : Int) + 1, C0, g, Nat.zero_le _, rfl, rfl, hTU.out, hT0.out⟩
    case round =>
      clear hTU hT0
      obtain ⟨j, a', C, g', hj64, rfl, rfl, hE, hT⟩ := hrel
      by_cases hlt : j < 64
      · have hrow := nums_of_cells (Q := fun _ => True) trivial hVb.out hE.row
        rw [hpl.out] at hrow
        have hwc : Hid (∀ off ln : Nat, off = 4 * j → ln = 4 → NumsAt (fun _ => True) .u8 wr (some ⟨w4.heap.size, off, none⟩) ln (chunk (padTo N) j)) := hid fun off ln e1 e2 => by
          subst e1; subst e2
          have := hrow.piece (lo := 4 * j) (m := 4) (by omega)
          rwa [Nat.zero_add] at this
        have hoc : Hid (∀ off ln : Nat, off = oo + 4 * j → ln = 4 → NumsAt (fun _ => True) .u8 wr (some ⟨ob, off, none⟩) ln (chunk O j)) := hid fun off ln e1 e2 => by
          subst e1; subst e2
          exact (hO.out.below hE.bel).piece (lo := 4 * j) (m := 4) (by omega)
        replace hE := hid hE
        replace hT := hid hT
        clear hrow
        by_cases heq : chunk O j = chunk (padTo N) j
        · have hE' : Hid (∀ nq, TU w (wr.drewN nq) w2.heap.size w4.heap.size n C (padTo N) g') := hid fun nq => hE.out.below (below_drewN _ _ _)
          have hT' := hid (hT.out.same hlt heq)
          go_wp2_with fail
          go_quiet (first | (go_at_call 31; refine Calls.quiet_of_same (bytesEqual_same _ _ _ _ _ _ (fun _ => True) (fun _ => True) (chunk (padTo N) j) _ ?_ ?_); exact heq ▸ (hoc.out _ _ (by omega) (by omega)).below (below_drewN _ _ _); exact (hwc.out _ _ (by omega) (by omega)).below (below_drewN _ _ _)))
          go_wp2_with fail
          go_roundw
          case rel => exact ⟨j + 1, a', C, g', by omega, by go_num, rfl, hE'.out _, hT'.out⟩
          case measure => simp [Go.RowKit.intOf]; omega
        · replace heq := hid heq
          go_wp2_with fail
          go_quiet (first | (go_at_call 31; refine Calls.quiet_of_same (bytesEqual_no _ _ _ _ _ _ (fun _ => True) (fun _ => True) (chunk O j) (chunk (padTo N) j) _ heq.out ?_ ?_); exact (hoc.out _ _ (by omega) (by omega)).below (below_drewN _ _ _); exact (hwc.out _ _ (by omega) (by omega)).below (below_drewN _ _ _)))
          replace hE := hE.out.below (below_drewN _ _ nq)
          replace hwc : Hid (∀ off ln : Nat, off = 4 * j → ln = 4 → NumsAt (fun _ => True) .u8 (wr.drewN nq) (some ⟨w4.heap.size, off, none⟩) ln (chunk (padTo N) j)) := hid fun off ln e1 e2 => (hwc.out off ln e1 e2).below (below_drewN _ _ _)
          clear hoc
          generalize wr.drewN nq = w7 at *
          have s7 := hE.own.cell 0
          simp at s7
          replace hE := hid hE
          have e4 : (j + 1) * 4 - j * 4 = 4 := by omega
          have hcg := chg_le O (padTo N) j
          have hTt := hT.out.turned
          have hcc1 : Hid (1 ≤ cc + 48) := hid (by omega)
          have hcc2 : Hid (cc + 48 ≤ 999984) := hid (by omega)
          have hd7 : Hid (∀ (m : Nat) (D : Nat → Blk) (a'' : Int), a' = (m : Int) + 1 → PutOk n C 3 a' j (leafFor key j (chunk (padTo N) j)) (cc + 48) D a'' → Droppable n D ((m : Int) + 1)) := hid fun m D a'' e hp => by
            subst e
            exact hTt.droppable hR.out hp
          have hlf : Hid (∀ (E : Nat → Blk) (a'' : Int), LeafTurned n C key a' j (chunk (padTo N) j) (cc + 48) E a'' → TurnAt n B E key ((m : Int) + 1) O (padTo N) (j + 1) a'' cc) := hid fun E a'' ⟨D, hp, hor⟩ => by
            rcases hor with ⟨e, rfl⟩ | ⟨m, e, hRE, hFE⟩
            · subst e; exact hT.out.step0 hR.out h1 hlt heq.out hp
            · subst e; exact hT.out.step hR.out h1 hlt heq.out hp hRE hFE
          have hfull : Hid (n ≤ usedTo C n + 3 → n < usedTo B n + 4 * chg O (padTo N) 64) := hid fun f => by
            have h2 := chg_step hlt heq.out
            have h3 := hT.out.used
            omega
          replace hTt := hid hTt
          clear hcg
          go_upto_region 14 with fail
          go_region_with (go_at_call 32; refine (turnLeaf_any (some ⟨g', 0, none⟩) n n C key a' j _ _ (chunk (padTo N) j) (cc + 48) _ ?_ hTt.out.right hTt.out.root hlt hk.out ?_ hcc1.out hcc2.out hTt.out.few hd7.out).mono ?_; exact hE.out.st.store.below (below_drew _ _); exact (hwc.out _ _ (by omega) rfl).below (below_drew _ _); rintro e w8 ⟨⟨x, ln, lc, a8, e8, rfl, hcase⟩, b8⟩; have bb8 : Below w7.heap.size w7 w8 := (below_drew _ _).trans b8; have t8 := hE.out.below bb8; have hqb := t8.qb; have m8 := t8.own.cell 0; have f8 := t8.own.frozen 0; simp at m8; replace hcase := hid hcase; replace bb8 := hid bb8; replace t8 := hid t8; clear b8)
          all_goals (
            rcases hcase.out with ⟨rfl, rfl, rfl, rfl, rfl, hus⟩ | ⟨rfl, g8, E, rfl, rfl, rfl, hLT, hg8, hOw⟩
            · have hno := hid (hfull.out hus)
              have r10 := t8.out.r10.past (a := ⟨w2.heap.size, 0, none⟩) (show w.heap.size + 1 ≠ w2.heap.size by omega) (.slice none 0 0)
              have r11 := t8.out.r11.past (a := ⟨w2.heap.size, 0, none⟩) (show w.heap.size + 1 + 1 ≠ w2.heap.size by omega) (.slice none 0 0)
              have bz := t8.out.bel.setCell (p := ⟨w2.heap.size, 0, none⟩) (show w.heap.size ≤ w2.heap.size by omega) (.slice none 0 0)
              clear hcase hus m8 f8
              generalize w8.setCell ⟨w2.heap.size, 0, none⟩ (.slice none 0 0) = w9 at *
              have q1 := r10.cell 0
              have q2 := r10.frozen 0
              have q3 := r11.cell 0
              have q4 := r11.frozen 0
              have q5 := r11.cell 1
              have q6 := r11.frozen 1
              simp at q1 q3 q5
              replace bz := hid bz
              clear r10 r11
              go_wp2_with fail
              refine bodyPost_ret (v := .tuple #[.agg #[.slice none 0 0], .agg #[.int .i64 0, .int .i64 0], .int .i64 8]) (by rw [results_cells2 rfl]; go_simp) rfl ⟨⟨none, 0, 0, 0, 0, 8, rfl, .inl ⟨rfl, rfl, rfl, rfl, rfl, rfl, hno.out⟩⟩, ((bz.out.setCell (show w.heap.size ≤ w.heap.size + 1 by omega) _).setCell (show w.heap.size ≤ w.heap.size + 1 + 1 by omega) _).setCell (show w.heap.size ≤ w.heap.size + 1 + 1 by omega) _⟩
            · have hT9 := hid (hlf.out E a8 hLT)
              have hE9 := hid (hE.out.turn bb8.out hg8 hOw)
              clear hcase hLT hOw m8 f8
              go_wp2_with fail
              go_roundw
              case rel => exact ⟨j + 1, a8, E, g8, by omega, by go_num, rfl, hE9.out, hT9.out⟩
              case measure => simp [Go.RowKit.intOf]; omega)
      · obtain rfl : j = 64 := by omega
        have hfin : Hid (RetT w.heap.size (.returned (.tuple #[.agg #[.slice (some ⟨g', 0, none⟩) n n], .agg #[.int .i64 a', .int .i64 nn], .int .i64 0])) (((wr.setCell ⟨w.heap.size + 1, 0, none⟩ (.slice (some ⟨g', 0, none⟩) n n)).setCell ⟨w.heap.size + 1 + 1, 0, none⟩ (.int .i64 a')).setCell ⟨w.heap.size + 1 + 1, 1, none⟩ (.int .i64 nn)) n B key ((m : Int) + 1) O N cc) := hid (by
          have hgb := hE.gb
          have o1 := hE.st.kept (q := w.heap.size + 1) (by omega) (Kept.setCell (Kept.refl _ wr) (p := ⟨w.heap.size + 1, 0, none⟩) rfl (.slice (some ⟨g', 0, none⟩) n n))
          have o2 := o1.kept (q := w.heap.size + 1 + 1) (by omega) (Kept.setCell (Kept.refl _ _) (p := ⟨w.heap.size + 1 + 1, 0, none⟩) rfl (.int .i64 a'))
          have o3 := o2.kept (q := w.heap.size + 1 + 1) (by omega) (Kept.setCell (Kept.refl _ _) (p := ⟨w.heap.size + 1 + 1, 1, none⟩) rfl (.int .i64 nn))
          exact ⟨_, n, n, a', nn, 0, rfl, .inr ⟨rfl, g', C, rfl, rfl, rfl, by rw [hnl.out], by omega, o3, hT⟩⟩)
        have s1 := hE.own.cell 0
        have q1 := hE.r10.cell 0
        have q2 := hE.r10.frozen 0
        have q3 := hE.r11.cell 0
        have q4 := hE.r11.frozen 0
        have q5 := hE.r11.cell 1
        have q6 := hE.r11.frozen 1
        simp at s1 q1 q3 q5
        have bz := hid hE.bel
        clear hE hT
        go_wp2_with fail
        refine bodyPost_ret (v := .tuple #[.agg #[.slice (some ⟨g', 0, none⟩) n n], .agg #[.int .i64 a', .int .i64 nn], .int .i64 0]) (by rw [results_cells2 rfl]; go_simp) rfl ⟨hfin.out, ((bz.out.setCell (show w.heap.size ≤ w.heap.size + 1 by omega) _).setCell (show w.heap.size ≤ w.heap.size + 1 + 1 by omega) _).setCell (show w.heap.size ≤ w.heap.size + 1 + 1 by omega) _⟩
end Go.Proofs.Ytaagnojdpedilad
