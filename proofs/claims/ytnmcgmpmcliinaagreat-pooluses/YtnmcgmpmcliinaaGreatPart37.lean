/-
  PoolS, PoolT in one text. Nothing here is trusted.
-/
import Derived.Test.YtnmcgmpmcliinaaGreatPart36
set_option linter.unusedVariables false
namespace Go.Proofs.YtnmcgmpmcliinaaGreat
open Go.RowKit
theorem NumsAt.both {Q R : Nat → Prop} {k : IntKind} {w : World} {a : Option Addr} {n : Nat} {l : List Int} (h : NumsAt Q k w a n l) (h2 : NumsAt R k w a n l) : NumsAt (fun b => Q b ∧ R b) k w a n l := by
  refine ⟨h.1, h.2.1, fun hp => ?_⟩
  obtain ⟨b, off, rfl, hlt, hq, hc⟩ := h.2.2 hp
  obtain ⟨b2, off2, e, _, hr, _⟩ := h2.2.2 hp
  simp only [Option.some.injEq, Addr.mk.injEq, and_true] at e
  obtain ⟨rfl, rfl⟩ := e
  exact ⟨b, off, rfl, hlt, ⟨hq, hr⟩, hc⟩
theorem PSt.swap3 {H : Nat} {X : Nat → Prop} {w : World} {ob g n g' : Nat} {B C : Nat → Blk} {ta : Option Addr} {tn tc : Nat} {L : List TenM} (h : PSt H X w ob g n B ta tn tc L) (hO : Own w g' n C) (hB : Blocks (fun b => ¬ RowsP (.slice ta tn tc) L tn b ∧ ¬ X b) w g' 0 n C) (hg : ¬ RowsP (.slice ta tn tc) L tn g' ∧ ∀ b, X b → b < g') : PSt H X (w.setCell ⟨ob, 0, none⟩ (.slice (some ⟨g', 0, none⟩) n n)) ob g' n C ta tn tc L := by
  have kk : Kept ob w (w.setCell ⟨ob, 0, none⟩ (.slice (some ⟨g', 0, none⟩) n n)) := Kept.setCell (g := ob) (Kept.refl _ _) (p := ⟨ob, 0, none⟩) rfl _
  have hob := hg.2 ob h.hx
  have hO' := hO.kept hob kk
  have hlen := h.mine.len
  have k := h.box.set 0 (.slice (some ⟨g', 0, none⟩) n n)
  simp only [List.setIfInBounds_toArray, List.set_cons_zero] at k
  refine ⟨k, hO'.lt, fun j hj => ?_, hO'.free, ⟨hg.1, fun x => by have := hg.2 _ x; omega⟩, h.mine.only (Only.of_kept (M := fun b => b = ob) kk rfl) (fun b e => .inr ⟨e ▸ h.hx, fun f => absurd f (by omega)⟩), h.hob, h.hx⟩
  obtain ⟨ka, kn, kc, ba, bn, bc, h1⟩ := hO'.blocks j hj
  obtain ⟨ka2, kn2, kc2, ba2, bn2, bc2, h2⟩ := ((Only.of_kept (M := fun b => b = ob) kk rfl).blocks hB (by omega) hO.lt (fun b q e => q.2 (e ▸ h.hx))) j hj
  have e2 := h1.c2.symm.trans h2.c2
  have e3 := h1.c3.symm.trans h2.c3
  simp only [Option.some.injEq, Value.slice.injEq] at e2 e3
  obtain ⟨rfl, rfl, rfl⟩ := e2
  obtain ⟨rfl, rfl, rfl⟩ := e3
  exact ⟨ka, kn, kc, ba, bn, bc, h1.c0, h1.c1, h1.c2, h1.c3, h1.kids.both h2.kids, h1.bytes.both h2.bytes, h1.refs, h1.level, h1.caps⟩
def RetPcl (H : Nat) (X : Nat → Prop) (w : World) (ob g n : Nat) (B : Nat → Blk) (tb tn tc : Nat) (L : List TenM) (i : Nat) (m : TenM) (s : SetM) (e : Ending) (w' : World) : Prop :=
  (∃ e' : Int, e = .returned (.int .i64 e') ∧ e' ≠ 0 ∧ Below w.heap.size w w') ∨
  (e = .returned (.int .i64 0) ∧ Below H w w' ∧ Only (PM ob tb tn tc L) w w' ∧ ∃ g' C y u a' c' p, (SetOk n B m.key s.x ∧ HeldR n B (rootsX s.x) ∧ ∃ K, Grow n B C K ∧ (∀ r : Int, r ≠ 0 → (rootsX y).count r = K.count r) ∧ SetOk n C m.key y ∧ HeldR n C (rootsX y) ∧ ClF n B C s.x y) ∧ IsName y.name ∧ m.sn < 3 ∧ Found SetE.nm (m.ms.map (·.x)) y.nm p false ∧ PSt H X w' ob g' n C (some ⟨tb, 0, none⟩) tn tc (L.set i { m with sa := a', sn := m.sn + 1, sc := c', ms := m.ms.take p ++ ⟨u, y⟩ :: m.ms.drop p }))
set_option maxHeartbeats 4000000 in
set_option maxRecDepth 100000 in
theorem poolClone_any (H : Nat) (X : Nat → Prop) (ob g n : Nat) (B : Nat → Blk) (tb tn tc : Nat) (L : List TenM) (i k : Nat) (m : TenM) (s : SetM) (a : AskE) (ba : Option Addr) (bn bc : Nat) (cc : Int) (w : World) (h : PSt H X w ob g n B (some ⟨tb, 0, none⟩) tn tc L) (hm : L[i]? = some m) (hs : m.ms[k]? = some s) (h3 : m.sn ≤ 3) (hao : a.ok) (hc : ∀ k, k < n → (B k).refs ≤ cc) (hcc : cc + 6 ≤ 1000000) (ho : (m.ms.map (·.x)).Pairwise fun a b => a.nm < b.nm) :
    Calls Tryz.prog 62 #[.pointer (some ⟨ob, 0, none⟩), .pointer (some ⟨tb, i * 3, none⟩), .int .i64 k, .agg #[.int .i64 a.kind, .string a.set, .string a.file, .string a.to, .int .i64 a.pos, .int .i64 a.num, .slice ba bn bc]] w fun e w' => RetPcl H X w ob g n B tb tn tc L i m s e w' := by
  have b0 := below_alloc w (.cells #[.int .i64 a.kind, .string a.set, .string a.file, .string a.to, .int .i64 a.pos, .int .i64 a.num, .slice ba bn bc] 30)
  have kA : CellsAt _ w.heap.size #[.int .i64 a.kind, .string a.set, .string a.file, .string a.to, .int .i64 a.pos, .int .i64 a.num, .slice ba bn bc] 30 := cellsAt_alloc w _ _
  have hsz := h.mine.sz
  replace h := h.below b0
  replace b0 := hid b0
  replace kA := hid kA
  replace h := hid h
  replace hc := hid hc
  go_enter Tryz.func62, Tryz.ntmps62
  go_upto_region 1 with fail
  generalize w.alloc (.cells #[.int .i64 a.kind, .string a.set, .string a.file, .string a.to, .int .i64 a.pos, .int .i64 a.num, .slice ba bn bc] 30) = w0 at *
  obtain ⟨hk, hsk⟩ := List.getElem?_eq_some_iff.1 hs
  have hml : m.ms.length = m.sn := by have := (h.out.sets hm).1; simpa using this
  have hks : k < m.sn := by omega
  obtain ⟨hi, hmi⟩ := List.getElem?_eq_some_iff.1 hm
  have hl := h.out.mine.len
  have hown := h.out.mine.own i m hm (by omega)
  obtain ⟨rb, hrb⟩ : ∃ rb, m.sa = some ⟨rb, 0, none⟩ := by
    rcases hown.2 with ⟨h0, h1⟩ | ⟨q, cap, cur, h0, _⟩
    · omega
    · simp only [Value.slice.injEq] at h0; exact ⟨q, h0.1⟩
  have hse : Hid (∀ w', Below w0.heap.size w0 w' → SetAt (fun _ => True) w' s.v s.x) := hid (fun w' b => ((h.out.mine.lists m (List.mem_of_getElem? hm) s (List.mem_of_getElem? hs)).weaken (fun _ _ _ => trivial)).below b)
  have hst : Hid (∀ w', Below w0.heap.size w0 w' → StoreAt w' (some ⟨g, 0, none⟩) n B) := hid (fun w' b => h.out.own.store.below b)
  obtain ⟨t0, t1, t2, tf, lt⟩ := h.out.ten hm
  have hrow := hown
  rw [hrb] at hrow t2
  have lr := (hrow.lt rb rfl).2
  have r0 : w0.cell? ⟨rb, k * 3, none⟩ = some (.string s.v.name) := (hrow.cellAt (k * 3) (by omega)).trans ((flat_get SetM.cells_len m.ms k 0 hk (by omega)).trans (by rw [hsk]; rfl))
  have r1 : w0.cell? ⟨rb, k * 3 + 1, none⟩ = some (.slice s.v.fa s.v.fn s.v.fc) := (hrow.cellAt (k * 3 + 1) (by omega)).trans ((flat_get SetM.cells_len m.ms k 1 hk (by omega)).trans (by rw [hsk]; rfl))
  have r2 : w0.cell? ⟨rb, k * 3 + 2, none⟩ = some (.slice s.v.sa s.v.sn s.v.sc) := (hrow.cellAt (k * 3 + 2) (by omega)).trans ((flat_get SetM.cells_len m.ms k 2 hk (by omega)).trans (by rw [hsk]; rfl))
  have o0 := h.out.box.cell 0
  have lo := h.out.box.lt
  have la := kA.out.lt
  have a3 := kA.out.cell 3
  have a2 := kA.out.cell 2
  simp at a3 a2
  simp at o0
  have HB1 := hid (bDr (Below.refl _ w0))
  have HB2 := hid (bDr (bAl (Below.refl _ w0) obj0S))
  have HB3 := hid (bDr (bAl (Below.refl _ w0) obj0X))
  have HB4 := hid (bDr (bAl (bAl (Below.refl _ w0) obj0S) obj0X))
  have HB5 := hid (bDr (bAl (bAl (Below.refl _ w0) obj0X) obj0S))
  have HZ2 : Hid ((w0.alloc obj0S).drew.heap.size = w0.heap.size + 1) := hid (by show (w0.alloc obj0S).heap.size = _; simp)
  have HZ3 : Hid ((w0.alloc obj0X).drew.heap.size = w0.heap.size + 1) := hid (by show (w0.alloc obj0X).heap.size = _; simp)
  have HZ4 : Hid (((w0.alloc obj0S).alloc obj0X).drew.heap.size = w0.heap.size + 2) := hid (by show ((w0.alloc obj0S).alloc obj0X).heap.size = _; simp)
  have HZ5 : Hid (((w0.alloc obj0X).alloc obj0S).drew.heap.size = w0.heap.size + 2) := hid (by show ((w0.alloc obj0X).alloc obj0S).heap.size = _; simp)
  have ka2 := hid ((cellsAt_alloc w0 #[.slice none 0 0] 24).below (below_drew _ _))
  have kb3 := hid ((cellsAt_alloc w0 #[.string (ByteArray.mk #[]), .slice none 0 0, .slice none 0 0] 47).below (below_drew _ _))
  have ka4 := hid (((cellsAt_alloc w0 #[.slice none 0 0] 24).below (below_alloc _ obj0X)).below (below_drew _ _))
  have kb4 := hid ((cellsAt_alloc2 w0 obj0S #[.string (ByteArray.mk #[]), .slice none 0 0, .slice none 0 0] 47).below (below_drew _ _))
  have kb5 := hid (((cellsAt_alloc w0 #[.string (ByteArray.mk #[]), .slice none 0 0, .slice none 0 0] 47).below (below_alloc _ obj0S)).below (below_drew _ _))
  have ka5 := hid ((cellsAt_alloc2 w0 obj0X #[.slice none 0 0] 24).below (below_drew _ _))
  have n0 : ob ≠ w0.heap.size := by omega
  have n0' := n0.symm
  have q0 : ob ≠ w0.heap.size + 1 := by omega
  have q0' := q0.symm
  have n1 : tb ≠ w0.heap.size := by omega
  have n1' := n1.symm
  have q1 : tb ≠ w0.heap.size + 1 := by omega
  have q1' := q1.symm
  have n2 : rb ≠ w0.heap.size := by omega
  have n2' := n2.symm
  have q2 : rb ≠ w0.heap.size + 1 := by omega
  have q2' := q2.symm
  have n3 : w.heap.size ≠ w0.heap.size := by omega
  have n3' := n3.symm
  have q3 : w.heap.size ≠ w0.heap.size + 1 := by omega
  have q3' := q3.symm
  have hk0 : (0 : Int) ≤ (k : Int) := by omega
  have hksI : (k : Int) < (m.sn : Int) := by omega
  replace hm := hid hm
  replace hs := hid hs
  clear hrow hown hsk t1 tf hmi
  replace hrb := hid hrb
  go_cut [9, 10, 11] from 36 (fun v9 v10 v11 wc => GotS w0 wc n (True) (fun D y => SetOk n B m.key s.x ∧ HeldR n B (rootsX s.x) ∧ ∃ K, Grow n B D K ∧ (∀ r : Int, r ≠ 0 → (rootsX y).count r = K.count r) ∧ SetOk n D m.key y ∧ HeldR n D (rootsX y) ∧ ClF n B D s.x y) v9 v10 v11)
  case first =>
    go_region_held3 (fun w' => w'.cell? ⟨ob, 0, none⟩ = some (.slice (some ⟨g, 0, none⟩) n n) ∧ w'.cell? ⟨tb, i * 3, none⟩ = some (.int .i64 m.key) ∧ w'.cell? ⟨tb, i * 3 + 2, none⟩ = some (.slice (some ⟨rb, 0, none⟩) m.sn m.sc) ∧ w'.cell? ⟨rb, k * 3, none⟩ = some (.string s.v.name) ∧ w'.cell? ⟨rb, k * 3 + 1, none⟩ = some (.slice s.v.fa s.v.fn s.v.fc) ∧ w'.cell? ⟨rb, k * 3 + 2, none⟩ = some (.slice s.v.sa s.v.sn s.v.sc) ∧ w'.cell? ⟨w.heap.size, 3, none⟩ = some (.string a.to) ∧ w'.cell? ⟨w.heap.size, 2, none⟩ = some (.string a.file)) (first | go_keep | assumption) (first | (go_at_call 42; refine Calls.mono (clone_any (some ⟨g, 0, none⟩) n n B m.key s.v s.x a.to a.file cc _ ?_ ?_ hao.1.2.2 hao.1.2.1 hc.out hcc) ?_; (first | with_reducible exact hst.out _ HB1.out | with_reducible exact hst.out _ HB2.out | with_reducible exact hst.out _ HB3.out | with_reducible exact hst.out _ HB4.out | with_reducible exact hst.out _ HB5.out); (first | with_reducible exact hse.out _ HB1.out | with_reducible exact hse.out _ HB2.out | with_reducible exact hse.out _ HB3.out | with_reducible exact hse.out _ HB4.out | with_reducible exact hse.out _ HB5.out); rintro e w6 hret; have hr6 := RetCl.case hret; clear hret; obtain ⟨b6, sx, ln, lc, u, e', rfl, hcase⟩ := hr6; (first | (with_reducible have bb := hid (Below.tr HB1.out b6); have hw := hid (CaseS.only (base' := w0.heap.size) hcase (Only.refl (fun _ => False) _) (fun _ f => f.elim) (Nat.le_refl _))) | (with_reducible have bb := hid (Below.tr HB2.out b6); have ka := hid (ka2.out.below b6); rw [HZ2.out] at hcase; have hw := hid hcase) | (with_reducible have bb := hid (Below.tr HB3.out b6); have kb := hid (kb3.out.below b6); rw [HZ3.out] at hcase; have hw := hid hcase) | (with_reducible have bb := hid (Below.tr HB4.out b6); have ka := hid (ka4.out.below b6); have kb := hid (kb4.out.below b6); rw [HZ4.out] at hcase; have hw := hid hcase) | (with_reducible have bb := hid (Below.tr HB5.out b6); have ka := hid (ka5.out.below b6); have kb := hid (kb5.out.below b6); rw [HZ5.out] at hcase; have hw := hid hcase)); have z0 := (bb.out.cell (p := ⟨ob, 0, none⟩) lo).trans o0; have z1 := (bb.out.cell (p := ⟨tb, i * 3, none⟩) lt).trans t0; have z2 := (bb.out.cell (p := ⟨tb, i * 3 + 2, none⟩) lt).trans t2; have z3 := (bb.out.cell (p := ⟨rb, k * 3, none⟩) lr).trans r0; have z4 := (bb.out.cell (p := ⟨rb, k * 3 + 1, none⟩) lr).trans r1; have z5 := (bb.out.cell (p := ⟨rb, k * 3 + 2, none⟩) lr).trans r2; have z6 := (bb.out.cell (p := ⟨w.heap.size, 3, none⟩) la).trans a3; have z7 := (bb.out.cell (p := ⟨w.heap.size, 2, none⟩) la).trans a2; have hs6 := bb.out.size; have m0 : ob ≠ w6.heap.size := (by omega); have m0' := m0.symm; have p0 : ob ≠ w6.heap.size + 1 := (by omega); have p0' := p0.symm; have m1 : tb ≠ w6.heap.size := (by omega); have m1' := m1.symm; have p1 : tb ≠ w6.heap.size + 1 := (by omega); have p1' := p1.symm; have m2 : rb ≠ w6.heap.size := (by omega); have m2' := m2.symm; have p2 : rb ≠ w6.heap.size + 1 := (by omega); have p2' := p2.symm; have m3 : w.heap.size ≠ w6.heap.size := (by omega); have m3' := m3.symm; have p3 : w.heap.size ≠ w6.heap.size + 1 := (by omega); have p3' := p3.symm; (try (have lka := ka.out.lt; have nka := Nat.ne_of_lt lka; have nka' := nka.symm; have cka := ka.out.cell 0; have fka := ka.out.frozen 0; simp only [List.getElem?_toArray, List.getElem?_cons_zero] at cka)); (try (have lkb := kb.out.lt; have nkb := Nat.ne_of_lt lkb; have nkb' := nkb.symm; have ckb0 := kb.out.cell 0; have ckb1 := kb.out.cell 1; have ckb2 := kb.out.cell 2; have fkb0 := kb.out.frozen 0; have fkb1 := kb.out.frozen 1; have fkb2 := kb.out.frozen 2; simp only [List.getElem?_toArray, List.getElem?_cons_zero, List.getElem?_cons_succ] at ckb0 ckb1 ckb2)); clear hcase; replace b6 := hid b6))
    all_goals (go_wp2_with fail; go_meet; first
      | exact gots_cab bb.out hw.out (Nat.le_refl _)
      | exact gots_cba bb.out hw.out (Nat.le_refl _)
      | exact gots_acb (a := w0.heap.size) (Nat.le_refl _) (Nat.lt_succ_self _) ka.out bb.out hw.out (Nat.le_succ _)
      | exact gots_bca (a := w0.heap.size) (Nat.le_refl _) (Nat.lt_succ_self _) kb.out bb.out hw.out (Nat.le_succ _)
      | exact gots_abc (a := w0.heap.size) (b := w0.heap.size + 1) (Nat.le_refl _) (Nat.le_succ _) (by omega) (by omega) (by omega) ka.out kb.out bb.out hw.out (by omega)
      | exact gots_abc (a := w0.heap.size + 1) (b := w0.heap.size) (Nat.le_succ _) (Nat.le_refl _) (by omega) (by omega) (by omega) ka.out kb.out bb.out hw.out (by omega))
  case rest =>
    obtain ⟨a9, a10, sx, ln, lc, u, e', rfl, rfl, rfl, k9, k10, bC, h9, h10, hCs⟩ := hcut
    clear HB1 HB2 HB3 HB4 HB5 HZ2 HZ3 HZ4 HZ5 ka2 kb3 ka4 kb4 kb5 ka5 hst hse n0 n1 n2 n3 n0' n1' n2' n3' q0 q1 q2 q3 q0' q1' q2' q3'
    replace k9 := hid k9
    replace k10 := hid k10
    replace bC := hid bC
    clear o0 t0 t2 r0 r1 r2 a3 a2
    rcases hCs with ⟨he, _⟩ | ⟨rfl, g', C, y, rfl, e1, e2, hP, hg', hO, hY⟩
    · have he' : (e' == 0) = false := by simp [he]
      go_wp2_with fail
      go_ret
      exact .inl ⟨e', rfl, he, Below.tr b0.out bC.out⟩
    · obtain rfl := e1.symm
      obtain rfl := e2.symm
      have hwc := h.out.below bC.out
      have hYn : SetAt (fun b => ¬ RowsP (.slice (some ⟨tb, 0, none⟩) tn tc) L tn b ∧ ¬ X b) wc u y := hY.weaken (fun b _ q => ⟨fun f => by have := (h.out.mine.ge f).2; omega, fun x => by have := h.out.mine.xlt b x; omega⟩)
      have c0 := k10.out.cell 0
      have c1 := k10.out.cell 1
      have c2 := k10.out.cell 2
      simp at c0 c1 c2
      replace hP := hid hP
      replace hO := hid hO
      replace hwc := hid hwc
      replace hYn := hid hYn
      replace hY := hid hY
      replace ho := hid ho
      go_wp2_with fail
      refine (poolAdd_any H X ob g n B tb tn tc L i m u y wc hwc.out hm.out ho.out h3 hYn.out).mono ?_
      rintro e w7 (⟨e', rfl, he, b7, _⟩ | ⟨rfl, hNm, hlt3, bH, a', c', p, hF, hPS, on, hR⟩)
      · have he' : (e' == 0) = false := by simp [he]
        go_wp2_with fail
        go_ret
        exact .inl ⟨e', rfl, he, Below.tr b0.out (Below.tr bC.out b7)⟩
      · have hn9 : ¬ RowsP (.slice (some ⟨tb, 0, none⟩) tn tc) L tn a9 := fun f => by have := (h.out.mine.ge f).2; omega
        have x9 : w7.cell? ⟨a9, 0, none⟩ = some (.slice (some ⟨g', 0, none⟩) n n) := by
          have := (on.cell (p := ⟨a9, 0, none⟩) k9.out.lt hn9).trans (k9.out.cell 0)
          simpa using this
        have x0 := hPS.box.cell 0
        have xf := hPS.box.frozen 0
        simp at x0
        replace hPS := hid hPS
        replace hF := hid hF
        replace bH := hid bH
        go_wp2_with fail
        go_ret
        have kk : Kept ob w7 (w7.setCell ⟨ob, 0, none⟩ (.slice (some ⟨g', 0, none⟩) n n)) := Kept.setCell (g := ob) (Kept.refl _ _) (p := ⟨ob, 0, none⟩) rfl _
        have hMg : ∀ b, RowsP (.slice (some ⟨tb, 0, none⟩) tn tc) L tn b → b < g' := fun b f => by have := (h.out.mine.ge f).2; omega
        have hO7 : Own w7 g' n C := ⟨Nat.lt_of_lt_of_le hO.out.lt on.size, on.blocks hO.out.blocks (fun f => by have := hMg _ f; omega) hO.out.lt (fun b q f => by have := hMg _ f; omega), fun j hj => by
          rw [World.frozen?_of_block (w := wc) (on.block g' hO.out.lt (fun f => by have := hMg _ f; omega))]
          exact hO.out.free j hj⟩
        refine .inr ⟨rfl, (b0.out.mono hsz).trans ((bC.out.mono (by have := b0.out.size; omega)).trans (bH.out.trans (kk.below hPS.out.hob))), (((Only.of_below b0.out).trans (Only.of_below bC.out)).trans (on.mono (fun b _ q => .inr q))).trans (Only.of_kept kk (.inl rfl)), g', C, y, u, a', c', p, hP.out, hNm, hlt3, hF.out, hPS.out.swap3 hO7 ((on.blocks (hO.out.blocks.weaken (R := fun b => g' < b ∧ b < wc.heap.size) (fun b hb q => ⟨q, hb⟩)) (fun f => by have := hMg _ f; omega) hO.out.lt (fun b q f => by have := hMg _ f; omega)).weaken (fun b _ q => ⟨fun f => ?_, fun x => by have := h.out.mine.xlt b x; omega⟩)) ⟨fun f => ?_, fun b x => by have := h.out.mine.xlt b x; omega⟩⟩
        · rcases hR b f with f | f
          · have := hMg _ f; omega
          · omega
        · rcases hR _ f with f | f
          · have := hMg _ f; omega
          · have := hO.out.lt; omega
end Go.Proofs.YtnmcgmpmcliinaaGreat

namespace Go.Proofs.YtnmcgmpmcliinaaGreat
open Go.RowKit
def WhyNot (n : Nat) (B : Nat → Blk) (i k : Nat) (m : TenM) (s : SetM) (a : AskE) (cc e' : Int) : Prop :=
  (SetOk n B m.key s.x → HeldR n B (rootsX s.x) → ChgNo n B m.key s.x a) ∨ (e' = 8 ∧ ∃ D y q, (SetOk n B m.key s.x ∧ HeldR n B (rootsX s.x) ∧ Did n B m.key s.x a cc D y) ∧ Uses D (rootsL ((m.ms.map (·.x)).set k y)) q ∧ m.quota < q)
def RetPch (H : Nat) (X : Nat → Prop) (w : World) (ob g n : Nat) (B : Nat → Blk) (tb tn tc : Nat) (L : List TenM) (i k : Nat) (m : TenM) (s : SetM) (a : AskE) (cc : Int) (e : Ending) (w' : World) : Prop :=
  (∃ (e' : Int) (L' : List TenM), e = .returned (.int .i64 e') ∧ e' ≠ 0 ∧ Below H w w' ∧ Only (PM ob tb tn tc L) w w' ∧ PSt H X w' ob g n B (some ⟨tb, 0, none⟩) tn tc L' ∧ L'.map TenM.e = L.map TenM.e ∧ WhyNot n B i k m s a cc e') ∨
  (e = .returned (.int .i64 0) ∧ Below H w w' ∧ Only (PM ob tb tn tc L) w w' ∧ ∃ g' D y u, (SetOk n B m.key s.x ∧ HeldR n B (rootsX s.x) ∧ Did n B m.key s.x a cc D y) ∧ (∃ q, Uses D (rootsL ((m.ms.map (·.x)).set k y)) q ∧ q ≤ m.quota) ∧ PSt H X w' ob g' n D (some ⟨tb, 0, none⟩) tn tc (L.set i { m with ms := m.ms.set k ⟨u, y⟩ }))
theorem PSt.back {H : Nat} {X : Nat → Prop} {w wf : World} {ob g n : Nat} {B : Nat → Blk} {ta : Option Addr} {tn tc : Nat} {L : List TenM} {i rb : Nat} {m : TenM} (h : PSt H X w ob g n B ta tn tc L) (hm : L[i]? = some m) (ha : m.sa = some ⟨rb, 0, none⟩) (on : Only (fun b => b = rb) w wf) (hset : wf.ownsRow H 47 3 (.slice m.sa m.sn m.sc) m.sn (setCells m.ms)) : PSt H X wf ob g n B ta tn tc L := by
  obtain ⟨hi, hmi⟩ := List.getElem?_eq_some_iff.1 hm
  have hl := h.mine.len
  have hin : i < tn := by omega
  have hself : L.set i m = L := by rw [← hmi, List.set_getElem_self]
  have hmine := h.mine.step (w' := wf) (m' := m) hm (.inl ⟨hin, rfl⟩) on (fun b e => .inr ⟨hin, by subst e; rw [ha]; rfl⟩) (by
    rw [hself]
    exact on.row h.mine.row (fun b hb e => by subst e; exact h.mine.top i m hm hin b (by rw [ha]; rfl) hb)) hset (fun b hb => .inl ⟨hin, hb⟩) (fun s hs => .inl hs) ⟨rfl, rfl⟩
  rw [hself] at hmine
  exact h.step on (fun b e => .inr ⟨i, m, hin, hm, by subst e; rw [ha]; rfl⟩) hmine (fun b f => .inl f)
set_option maxHeartbeats 4000000 in
set_option maxRecDepth 100000 in
theorem poolChange_any (H : Nat) (X : Nat → Prop) (ob g n : Nat) (B : Nat → Blk) (tb tn tc : Nat) (L : List TenM) (i k : Nat) (m : TenM) (s : SetM) (a : AskE) (ba : Option Addr) (bn bc : Nat) (cc : Int) (w : World) (h : PSt H X w ob g n B (some ⟨tb, 0, none⟩) tn tc L) (hm : L[i]? = some m) (hs : m.ms[k]? = some s) (h3 : m.sn ≤ 3) (hao : a.ok) (hc : ∀ k, k < n → (B k).refs ≤ cc) (hB : NumsAt (fun _ => True) .u8 w ba bn a.bytes) (h64 : 64 ≤ cc) (hcc : cc + moreOf a + 24 ≤ 1000000) (hq : m.quota ≤ 400) (hpure : ∀ D y, SetOk n B m.key s.x ∧ HeldR n B (rootsX s.x) ∧ Did n B m.key s.x a cc D y → Right n D ∧ TenOk n D ⟨m.key, m.quota, (m.ms.map (·.x)).set k y⟩) :
    Calls Tryz.prog 63 #[.pointer (some ⟨ob, 0, none⟩), .pointer (some ⟨tb, i * 3, none⟩), .int .i64 k, .agg #[.int .i64 a.kind, .string a.set, .string a.file, .string a.to, .int .i64 a.pos, .int .i64 a.num, .slice ba bn bc]] w fun e w' => RetPch H X w ob g n B tb tn tc L i k m s a cc e w' := by
  have b0 := below_alloc w (.cells #[.int .i64 a.kind, .string a.set, .string a.file, .string a.to, .int .i64 a.pos, .int .i64 a.num, .slice ba bn bc] 30)
  have kA : CellsAt _ w.heap.size #[.int .i64 a.kind, .string a.set, .string a.file, .string a.to, .int .i64 a.pos, .int .i64 a.num, .slice ba bn bc] 30 := cellsAt_alloc w _ _
  have hsz := h.mine.sz
  replace h := h.below b0
  replace b0 := hid b0
  replace kA := hid kA
  replace h := hid h
  replace hc := hid hc
  replace hB := hid (hB.below b0.out)
  replace hpure := hid hpure
  go_enter Tryz.func63, Tryz.ntmps63
  go_upto_region 1 with fail
  generalize w.alloc (.cells #[.int .i64 a.kind, .string a.set, .string a.file, .string a.to, .int .i64 a.pos, .int .i64 a.num, .slice ba bn bc] 30) = w0 at *
  obtain ⟨hk, hsk⟩ := List.getElem?_eq_some_iff.1 hs
  have hml : m.ms.length = m.sn := by have := (h.out.sets hm).1; simpa using this
  have hks : k < m.sn := by omega
  obtain ⟨hi, hmi⟩ := List.getElem?_eq_some_iff.1 hm
  have hl := h.out.mine.len
  have hown := h.out.mine.own i m hm (by omega)
  obtain ⟨rb, hrb⟩ : ∃ rb, m.sa = some ⟨rb, 0, none⟩ := by
    rcases hown.2 with ⟨h0, h1⟩ | ⟨q, cap, cur, h0, _⟩
    · omega
    · simp only [Value.slice.injEq] at h0; exact ⟨q, h0.1⟩
  have hse : Hid (∀ w', Below w0.heap.size w0 w' → SetAt (fun _ => True) w' s.v s.x) := hid (fun w' b => ((h.out.mine.lists m (List.mem_of_getElem? hm) s (List.mem_of_getElem? hs)).weaken (fun _ _ _ => trivial)).below b)
  have hby : Hid (∀ w', Below w0.heap.size w0 w' → NumsAt (fun _ => True) .u8 w' ba bn a.bytes) := hid (fun w' b => hB.out.below b)
  have hst : Hid (∀ w', Below w0.heap.size w0 w' → StoreAt w' (some ⟨g, 0, none⟩) n B) := hid (fun w' b => h.out.own.store.below b)
  obtain ⟨t0, t1, t2, tf, lt⟩ := h.out.ten hm
  have hrow := hown
  rw [hrb] at hrow t2
  have lr := (hrow.lt rb rfl).2
  have r0 : w0.cell? ⟨rb, k * 3, none⟩ = some (.string s.v.name) := (hrow.cellAt (k * 3) (by omega)).trans ((flat_get SetM.cells_len m.ms k 0 hk (by omega)).trans (by rw [hsk]; rfl))
  have r1 : w0.cell? ⟨rb, k * 3 + 1, none⟩ = some (.slice s.v.fa s.v.fn s.v.fc) := (hrow.cellAt (k * 3 + 1) (by omega)).trans ((flat_get SetM.cells_len m.ms k 1 hk (by omega)).trans (by rw [hsk]; rfl))
  have r2 : w0.cell? ⟨rb, k * 3 + 2, none⟩ = some (.slice s.v.sa s.v.sn s.v.sc) := (hrow.cellAt (k * 3 + 2) (by omega)).trans ((flat_get SetM.cells_len m.ms k 2 hk (by omega)).trans (by rw [hsk]; rfl))
  have o0 := h.out.box.cell 0
  have lo := h.out.box.lt
  have la := kA.out.lt
  have a0 := kA.out.cell 0
  have a1 := kA.out.cell 1
  have a2 := kA.out.cell 2
  have a3 := kA.out.cell 3
  have a4 := kA.out.cell 4
  have a5 := kA.out.cell 5
  have a6 := kA.out.cell 6
  simp at a0 a1 a2 a3 a4 a5 a6
  simp at o0
  have HB1 := hid (bDr (Below.refl _ w0))
  have HB2 := hid (bDr (bAl (Below.refl _ w0) obj0S))
  have HB3 := hid (bDr (bAl (Below.refl _ w0) obj0X))
  have HB4 := hid (bDr (bAl (bAl (Below.refl _ w0) obj0S) obj0X))
  have HB5 := hid (bDr (bAl (bAl (Below.refl _ w0) obj0X) obj0S))
  have HZ2 : Hid ((w0.alloc obj0S).drew.heap.size = w0.heap.size + 1) := hid (by show (w0.alloc obj0S).heap.size = _; simp)
  have HZ3 : Hid ((w0.alloc obj0X).drew.heap.size = w0.heap.size + 1) := hid (by show (w0.alloc obj0X).heap.size = _; simp)
  have HZ4 : Hid (((w0.alloc obj0S).alloc obj0X).drew.heap.size = w0.heap.size + 2) := hid (by show ((w0.alloc obj0S).alloc obj0X).heap.size = _; simp)
  have HZ5 : Hid (((w0.alloc obj0X).alloc obj0S).drew.heap.size = w0.heap.size + 2) := hid (by show ((w0.alloc obj0X).alloc obj0S).heap.size = _; simp)
  have ka2 := hid ((cellsAt_alloc w0 #[.slice none 0 0] 24).below (below_drew _ _))
  have kb3 := hid ((cellsAt_alloc w0 #[.string (ByteArray.mk #[]), .slice none 0 0, .slice none 0 0] 47).below (below_drew _ _))
  have ka4 := hid (((cellsAt_alloc w0 #[.slice none 0 0] 24).below (below_alloc _ obj0X)).below (below_drew _ _))
  have kb4 := hid ((cellsAt_alloc2 w0 obj0S #[.string (ByteArray.mk #[]), .slice none 0 0, .slice none 0 0] 47).below (below_drew _ _))
  have kb5 := hid (((cellsAt_alloc w0 #[.string (ByteArray.mk #[]), .slice none 0 0, .slice none 0 0] 47).below (below_alloc _ obj0S)).below (below_drew _ _))
  have ka5 := hid ((cellsAt_alloc2 w0 obj0X #[.slice none 0 0] 24).below (below_drew _ _))
  have n0 : ob ≠ w0.heap.size := by omega
  have n0' := n0.symm
  have q0 : ob ≠ w0.heap.size + 1 := by omega
  have q0' := q0.symm
  have n1 : tb ≠ w0.heap.size := by omega
  have n1' := n1.symm
  have q1 : tb ≠ w0.heap.size + 1 := by omega
  have q1' := q1.symm
  have n2 : rb ≠ w0.heap.size := by omega
  have n2' := n2.symm
  have q2 : rb ≠ w0.heap.size + 1 := by omega
  have q2' := q2.symm
  have n3 : w.heap.size ≠ w0.heap.size := by omega
  have n3' := n3.symm
  have q3 : w.heap.size ≠ w0.heap.size + 1 := by omega
  have q3' := q3.symm
  have hk0 : (0 : Int) ≤ (k : Int) := by omega
  have hksI : (k : Int) < (m.sn : Int) := by omega
  replace hm := hid hm
  replace hs := hid hs
  clear hrow hown hsk t1 tf hmi
  replace hrb := hid hrb
  go_cut [9, 10, 11] from 33 (fun v9 v10 v11 wc => GotS w0 wc n (SetOk n B m.key s.x → HeldR n B (rootsX s.x) → ChgNo n B m.key s.x a) (fun D y => SetOk n B m.key s.x ∧ HeldR n B (rootsX s.x) ∧ Did n B m.key s.x a cc D y) v9 v10 v11)
  case first =>
    go_region_held3 (fun w' => w'.cell? ⟨ob, 0, none⟩ = some (.slice (some ⟨g, 0, none⟩) n n) ∧ w'.cell? ⟨tb, i * 3, none⟩ = some (.int .i64 m.key) ∧ w'.cell? ⟨tb, i * 3 + 2, none⟩ = some (.slice (some ⟨rb, 0, none⟩) m.sn m.sc) ∧ w'.cell? ⟨rb, k * 3, none⟩ = some (.string s.v.name) ∧ w'.cell? ⟨rb, k * 3 + 1, none⟩ = some (.slice s.v.fa s.v.fn s.v.fc) ∧ w'.cell? ⟨rb, k * 3 + 2, none⟩ = some (.slice s.v.sa s.v.sn s.v.sc) ∧ w'.cell? ⟨w.heap.size, 0, none⟩ = some (.int .i64 a.kind) ∧ w'.cell? ⟨w.heap.size, 1, none⟩ = some (.string a.set) ∧ w'.cell? ⟨w.heap.size, 2, none⟩ = some (.string a.file) ∧ w'.cell? ⟨w.heap.size, 3, none⟩ = some (.string a.to) ∧ w'.cell? ⟨w.heap.size, 4, none⟩ = some (.int .i64 a.pos) ∧ w'.cell? ⟨w.heap.size, 5, none⟩ = some (.int .i64 a.num) ∧ w'.cell? ⟨w.heap.size, 6, none⟩ = some (.slice ba bn bc)) (first | go_keep | assumption) (first | (go_at_call 41; refine Calls.mono (do_any (fun _ => True) (some ⟨g, 0, none⟩) n n B m.key s.v s.x a ba bn bc cc _ ?_ ?_ ?_ hao h64 hc.out hcc) ?_; (first | with_reducible exact hst.out _ HB1.out | with_reducible exact hst.out _ HB2.out | with_reducible exact hst.out _ HB3.out | with_reducible exact hst.out _ HB4.out | with_reducible exact hst.out _ HB5.out); (first | with_reducible exact hse.out _ HB1.out | with_reducible exact hse.out _ HB2.out | with_reducible exact hse.out _ HB3.out | with_reducible exact hse.out _ HB4.out | with_reducible exact hse.out _ HB5.out); (first | with_reducible exact hby.out _ HB1.out | with_reducible exact hby.out _ HB2.out | with_reducible exact hby.out _ HB3.out | with_reducible exact hby.out _ HB4.out | with_reducible exact hby.out _ HB5.out); rintro e w6 hret; have hr6 := RetDid.case hret; clear hret; obtain ⟨b6, sx, ln, lc, u, e', rfl, hcase⟩ := hr6; (first | (with_reducible have bb := hid (Below.tr HB1.out b6); have hw := hid (CaseS.only (base' := w0.heap.size) hcase (Only.refl (fun _ => False) _) (fun _ f => f.elim) (Nat.le_refl _))) | (with_reducible have bb := hid (Below.tr HB2.out b6); have ka := hid (ka2.out.below b6); rw [HZ2.out] at hcase; have hw := hid hcase) | (with_reducible have bb := hid (Below.tr HB3.out b6); have kb := hid (kb3.out.below b6); rw [HZ3.out] at hcase; have hw := hid hcase) | (with_reducible have bb := hid (Below.tr HB4.out b6); have ka := hid (ka4.out.below b6); have kb := hid (kb4.out.below b6); rw [HZ4.out] at hcase; have hw := hid hcase) | (with_reducible have bb := hid (Below.tr HB5.out b6); have ka := hid (ka5.out.below b6); have kb := hid (kb5.out.below b6); rw [HZ5.out] at hcase; have hw := hid hcase)); have z0 := (bb.out.cell (p := ⟨ob, 0, none⟩) lo).trans o0; have z1 := (bb.out.cell (p := ⟨tb, i * 3, none⟩) lt).trans t0; have z2 := (bb.out.cell (p := ⟨tb, i * 3 + 2, none⟩) lt).trans t2; have z3 := (bb.out.cell (p := ⟨rb, k * 3, none⟩) lr).trans r0; have z4 := (bb.out.cell (p := ⟨rb, k * 3 + 1, none⟩) lr).trans r1; have z5 := (bb.out.cell (p := ⟨rb, k * 3 + 2, none⟩) lr).trans r2; have z6 := (bb.out.cell (p := ⟨w.heap.size, 0, none⟩) la).trans a0; have z7 := (bb.out.cell (p := ⟨w.heap.size, 1, none⟩) la).trans a1; have z8 := (bb.out.cell (p := ⟨w.heap.size, 2, none⟩) la).trans a2; have z9 := (bb.out.cell (p := ⟨w.heap.size, 3, none⟩) la).trans a3; have z10 := (bb.out.cell (p := ⟨w.heap.size, 4, none⟩) la).trans a4; have z11 := (bb.out.cell (p := ⟨w.heap.size, 5, none⟩) la).trans a5; have z12 := (bb.out.cell (p := ⟨w.heap.size, 6, none⟩) la).trans a6; have hs6 := bb.out.size; have m0 : ob ≠ w6.heap.size := (by omega); have m0' := m0.symm; have p0 : ob ≠ w6.heap.size + 1 := (by omega); have p0' := p0.symm; have m1 : tb ≠ w6.heap.size := (by omega); have m1' := m1.symm; have p1 : tb ≠ w6.heap.size + 1 := (by omega); have p1' := p1.symm; have m2 : rb ≠ w6.heap.size := (by omega); have m2' := m2.symm; have p2 : rb ≠ w6.heap.size + 1 := (by omega); have p2' := p2.symm; have m3 : w.heap.size ≠ w6.heap.size := (by omega); have m3' := m3.symm; have p3 : w.heap.size ≠ w6.heap.size + 1 := (by omega); have p3' := p3.symm; (try (have lka := ka.out.lt; have nka := Nat.ne_of_lt lka; have nka' := nka.symm; have cka := ka.out.cell 0; have fka := ka.out.frozen 0; simp only [List.getElem?_toArray, List.getElem?_cons_zero] at cka)); (try (have lkb := kb.out.lt; have nkb := Nat.ne_of_lt lkb; have nkb' := nkb.symm; have ckb0 := kb.out.cell 0; have ckb1 := kb.out.cell 1; have ckb2 := kb.out.cell 2; have fkb0 := kb.out.frozen 0; have fkb1 := kb.out.frozen 1; have fkb2 := kb.out.frozen 2; simp only [List.getElem?_toArray, List.getElem?_cons_zero, List.getElem?_cons_succ] at ckb0 ckb1 ckb2)); clear hcase; replace b6 := hid b6))
    all_goals (go_wp2_with fail; go_meet; first
      | exact gots_cab bb.out hw.out (Nat.le_refl _)
      | exact gots_cba bb.out hw.out (Nat.le_refl _)
      | exact gots_acb (a := w0.heap.size) (Nat.le_refl _) (Nat.lt_succ_self _) ka.out bb.out hw.out (Nat.le_succ _)
      | exact gots_bca (a := w0.heap.size) (Nat.le_refl _) (Nat.lt_succ_self _) kb.out bb.out hw.out (Nat.le_succ _)
      | exact gots_abc (a := w0.heap.size) (b := w0.heap.size + 1) (Nat.le_refl _) (Nat.le_succ _) (by omega) (by omega) (by omega) ka.out kb.out bb.out hw.out (by omega)
      | exact gots_abc (a := w0.heap.size + 1) (b := w0.heap.size) (Nat.le_succ _) (Nat.le_refl _) (by omega) (by omega) (by omega) ka.out kb.out bb.out hw.out (by omega))
  case rest =>
    obtain ⟨a9, a10, sx, ln, lc, u, e', rfl, rfl, rfl, k9, k10, bC, h9, h10, hCs⟩ := hcut
    clear HB1 HB2 HB3 HB4 HB5 HZ2 HZ3 HZ4 HZ5 ka2 kb3 ka4 kb4 kb5 ka5 hst hse hby n0 n1 n2 n3 n0' n1' n2' n3' q0 q1 q2 q3 q0' q1' q2' q3'
    replace k9 := hid k9
    replace k10 := hid k10
    replace bC := hid bC
    clear o0 t0 t2 r0 r1 r2 a0 a1 a2 a3 a4 a5 a6
    rcases hCs with ⟨he, hN⟩ | ⟨rfl, g', D, y, rfl, e1, e2, hP, hg', hO, hY⟩
    · have he' : (e' == 0) = false := by simp [he]
      replace hN := hid hN
      go_wp2_with fail
      go_ret
      exact .inl ⟨e', L, rfl, he, (b0.out.mono hsz).trans (bC.out.mono (by have := b0.out.size; omega)), (Only.of_below b0.out).trans (Only.of_below bC.out), h.out.below bC.out, rfl, .inl hN.out⟩
    · obtain rfl := e1.symm
      obtain rfl := e2.symm
      have hwc := h.out.below bC.out
      obtain ⟨t0, t1, t2, tf, _⟩ := hwc.ten hm.out
      rw [hrb.out] at t2
      have hown := hwc.mine.own i m hm.out (by omega)
      have hrow := hown
      rw [hrb.out] at hrow
      obtain ⟨_, hsk⟩ := List.getElem?_eq_some_iff.1 hs.out
      have r0 : wc.cell? ⟨rb, k * 3, none⟩ = some (.string s.v.name) := (hrow.cellAt (k * 3) (by omega)).trans ((flat_get SetM.cells_len m.ms k 0 hk (by omega)).trans (by rw [hsk]; rfl))
      have r1 : wc.cell? ⟨rb, k * 3 + 1, none⟩ = some (.slice s.v.fa s.v.fn s.v.fc) := (hrow.cellAt (k * 3 + 1) (by omega)).trans ((flat_get SetM.cells_len m.ms k 1 hk (by omega)).trans (by rw [hsk]; rfl))
      have r2 : wc.cell? ⟨rb, k * 3 + 2, none⟩ = some (.slice s.v.sa s.v.sn s.v.sc) := (hrow.cellAt (k * 3 + 2) (by omega)).trans ((flat_get SetM.cells_len m.ms k 2 hk (by omega)).trans (by rw [hsk]; rfl))
      have b5 := below_alloc wc (.cells #[.string s.v.name, .slice s.v.fa s.v.fn s.v.fc, .slice s.v.sa s.v.sn s.v.sc] 47)
      have k12 : CellsAt _ wc.heap.size #[.string s.v.name, .slice s.v.fa s.v.fn s.v.fc, .slice s.v.sa s.v.sn s.v.sc] 47 := cellsAt_alloc wc _ _
      replace hP := hid hP
      replace hO := hid hO
      replace hwc := hid hwc
      replace hY := hid hY
      replace b5 := hid b5
      replace k12 := hid k12
      clear hrow hown hsk t1 tf
      go_upto_region 5 with fail
      clear r0 r1 r2 t0 t2
      have hz5 : (wc.alloc (.cells #[.string s.v.name, .slice s.v.fa s.v.fn s.v.fc, .slice s.v.sa s.v.sn s.v.sc] 47)).heap.size = wc.heap.size + 1 := by simp
      generalize wc.alloc (.cells #[.string s.v.name, .slice s.v.fa s.v.fn s.v.fc, .slice s.v.sa s.v.sn s.v.sc] 47) = w5 at *
      have h5 := hwc.out.below b5.out
      obtain ⟨t0, t1, t2, tf, lt5⟩ := h5.ten hm.out
      rw [hrb.out] at t2
      have hrow := h5.mine.own i m hm.out (by omega)
      rw [hrb.out] at hrow
      have hlk : (setCells m.ms).length = m.sn * 3 := by rw [setCells_len]; omega
      have r0 := hrow.cellAt (k * 3) (by omega)
      have r1 := hrow.cellAt (k * 3 + 1) (by omega)
      have r2 := hrow.cellAt (k * 3 + 2) (by omega)
      rw [List.getElem?_eq_getElem (by omega)] at r0 r1 r2
      generalize (setCells m.ms)[k * 3] = y0 at *
      generalize (setCells m.ms)[k * 3 + 1] = y1 at *
      generalize (setCells m.ms)[k * 3 + 2] = y2 at *
      have f0 := hrow.frozenAt (k * 3)
      have f1 := hrow.frozenAt (k * 3 + 1)
      have f2 := hrow.frozenAt (k * 3 + 2)
      have k105 := k10.out.below b5.out
      have c0 := k105.cell 0
      have c1 := k105.cell 1
      have c2 := k105.cell 2
      simp at c0 c1 c2
      replace h5 := hid h5
      replace k105 := hid k105
      clear hrow
      go_region
      clear r0 r1 r2 f0 f1 f2 c0 c1 c2 t0 t1 t2 tf
      have kk := kept_putK w5 rb (k * 3) u
      have hYk : SetAt (fun b => w0.heap.size ≤ b) w5 u y := hY.out.below b5.out
      have b05 : Below w0.heap.size w0 w5 := Below.tr bC.out b5.out
      have hP6 := (h.out.lay (x := y) hm.out hrb.out hk b05 hYk).below (below_drew _ (putK w5 rb (k * 3) u))
      have hO6 := ((hO.out.below b5.out).kept (show rb < g' by omega) kk).below (below_drew _ (putK w5 rb (k * 3) u))
      have on6 : Only (fun b => b = rb) w5 (putK w5 rb (k * 3) u).drew := (Only.of_kept (M := fun b => b = rb) kk rfl).trans (Only.of_below (below_drew _ _))
      have k96 := on6.cells (k9.out.below b5.out) (show a9 ≠ rb by omega)
      have k126 := on6.cells k12.out (show wc.heap.size ≠ rb by have := b05.size; have := bC.out.size; omega)
      have bH6 : Below H w (putK w5 rb (k * 3) u).drew := ((b0.out.mono hsz).trans (b05.mono (by have := b0.out.size; omega))).trans ((kk.below (by have := (h.out.mine.own i m hm.out (by omega)).lt rb (by rw [hrb.out]; rfl); omega)).trans (below_drew _ _))
      replace hP6 := hid hP6
      replace hO6 := hid hO6
      replace on6 := hid on6
      replace bH6 := hid bH6
      have hsz6 := hP6.out.box.lt
      clear kk hYk
      unfold putK at *
      generalize (((w5.setCell ⟨rb, k * 3, none⟩ (.string u.name)).setCell ⟨rb, k * 3 + 1, none⟩ (.slice u.fa u.fn u.fc)).setCell ⟨rb, k * 3 + 2, none⟩ (.slice u.sa u.sn u.sc)).drew = w6 at *
      have hm6 : (L.set i { m with ms := m.ms.set k ⟨u, y⟩ })[i]? = some { m with ms := m.ms.set k ⟨u, y⟩ } := List.getElem?_set_self hi
      obtain ⟨t0, t1, t2, tf, lt6⟩ := hP6.out.ten hm6
      have hs6 := hP6.out.sets hm6
      simp only at t0 t1 t2 hs6
      have hTen : Hid (TenAt (fun _ => True) w6 ⟨m.key, m.quota, (m.ms.map (·.x)).set k y⟩ m.sa m.sn m.sc) := hid (by
        have hnm := hP6.out.mine.nums _ (List.mem_of_getElem? hm6)
        refine ⟨?_, hnm.1, hnm.2, ?_⟩
        · rw [List.map_set] at hs6
          exact hs6
        · exact row_caps (h.out.mine.own i m hm.out (by omega)))
      have hpu := hpure.out D y hP.out
      have c9 := k96.cell 0
      simp at c9
      have la9 := k96.lt
      rw [hrb.out] at t2
      replace hpu := hid hpu
      replace k96 := hid k96
      replace k126 := hid k126
      replace hm6 := hid hm6
      clear hs6
      go_upto_region 6 with fail
      go_region_held3 (fun w' => w'.cell? ⟨a9, 0, none⟩ = some (.slice (some ⟨g', 0, none⟩) n n) ∧ w'.cell? ⟨tb, i * 3, none⟩ = some (.int .i64 m.key) ∧ w'.cell? ⟨tb, i * 3 + 1, none⟩ = some (.int .i64 m.quota) ∧ w'.cell? ⟨tb, i * 3 + 2, none⟩ = some (.slice (some ⟨rb, 0, none⟩) m.sn m.sc)) (first | go_keep | assumption) (first | (go_at_call 28; rw [← hrb.out]; refine Calls.mono (poolReach_any (fun _ => True) (some ⟨g', 0, none⟩) n n D ⟨m.key, m.quota, (m.ms.map (·.x)).set k y⟩ m.sa m.sn m.sc _ (hO6.out.store.below (below_drew _ _)) (hTen.out.below (below_drew _ _)) hpu.out.1 hpu.out.2) ?_; rintro e w8 ⟨⟨xa, xn, xc, xl, rfl, hN8, hRi, hmem⟩, b8⟩; replace b8 : Below w6.heap.size w6 w8 := (below_drew _ _).trans b8; have z0 := (b8.cell (p := ⟨a9, 0, none⟩) la9).trans c9; have z1 := (b8.cell (p := ⟨tb, i * 3, none⟩) lt6).trans t0; have z2 := (b8.cell (p := ⟨tb, i * 3 + 1, none⟩) lt6).trans t1; have z3 := (b8.cell (p := ⟨tb, i * 3 + 2, none⟩) lt6).trans t2; replace hN8 := hid hN8; replace hRi := hid hRi; replace hmem := hid hmem))
      clear c9 t0 t1 t2 tf
      have hxl := hid hN8.out.1
      have b8h := hid b8
      clear b8
      by_cases hgt : m.quota < (xn : Int)
      · have hP8 := hP6.out.below b8h.out
        have hrow8 := hP8.mine.own i _ hm6.out (by omega)
        simp only [hrb.out] at hrow8
        have hlk8 : (setCells (m.ms.set k ⟨u, y⟩)).length = m.sn * 3 := by rw [setCells_len, List.length_set]; omega
        have r0 := hrow8.cellAt (k * 3) (by omega)
        have r1 := hrow8.cellAt (k * 3 + 1) (by omega)
        have r2 := hrow8.cellAt (k * 3 + 2) (by omega)
        rw [List.getElem?_eq_getElem (by omega)] at r0 r1 r2
        generalize (setCells (m.ms.set k ⟨u, y⟩))[k * 3] = x0 at *
        generalize (setCells (m.ms.set k ⟨u, y⟩))[k * 3 + 1] = x1 at *
        generalize (setCells (m.ms.set k ⟨u, y⟩))[k * 3 + 2] = x2 at *
        have f0 := hrow8.frozenAt (k * 3)
        have f1 := hrow8.frozenAt (k * 3 + 1)
        have f2 := hrow8.frozenAt (k * 3 + 2)
        have k128 := k126.out.below b8h.out
        have d0 := k128.cell 0
        have d1 := k128.cell 1
        have d2 := k128.cell 2
        simp at d0 d1 d2
        have hrb8 := hrow8.lt rb rfl
        replace hrow8 := hid hrow8
        replace k128 := hid k128
        replace hP8 := hid hP8
        go_upto_region 7 with fail
        go_region
        go_wp2_with fail
        go_ret
        have kk := kept_putK w8 rb (k * 3) s.v
        have hset := row_putK hrow8.out (k := k) (by rw [List.length_set]; exact hk) s.v s.x
        rw [List.set_set] at hset
        have hself : m.ms.set k ⟨s.v, s.x⟩ = m.ms := by
          obtain ⟨_, hsk⟩ := List.getElem?_eq_some_iff.1 hs.out
          rw [show (⟨s.v, s.x⟩ : SetM) = m.ms[k] from hsk.symm, List.set_getElem_self]
        rw [hself] at hset
        have on8 : Only (fun b => b = rb) w0 (putK w8 rb (k * 3) s.v).drew := ((((Only.of_below b05).trans on6.out).trans (Only.of_below b8h.out)).trans (Only.of_kept kk rfl)).trans (Only.of_below (below_drew _ _))
        refine .inl ⟨8, L, rfl, by decide, bH6.out.trans ((b8h.out.mono (by have := bH6.out.size; omega)).trans ((kk.below (by omega)).trans (below_drew _ _))), (Only.of_below b0.out).trans (on8.mono (fun b _ q => .inr (.inr ⟨i, m, by omega, hm.out, by rw [hrb.out, q]; rfl⟩))), h.out.back hm.out hrb.out on8 ?_, rfl, .inr ⟨rfl, D, y, (xn : Int), hP.out, ⟨xl, hRi.out, hmem.out, by rw [hxl.out]⟩, hgt⟩⟩
        rw [hrb.out]
        exact row_below hset (below_drew _ _)
      · have hP8 := hP6.out.below b8h.out
        have x0 := hP8.box.cell 0
        have xf := hP8.box.frozen 0
        simp at x0
        replace hP8 := hid hP8
        go_wp2_with fail
        go_ret
        have kk : Kept ob w8 (w8.setCell ⟨ob, 0, none⟩ (.slice (some ⟨g', 0, none⟩) n n)) := Kept.setCell (g := ob) (Kept.refl _ _) (p := ⟨ob, 0, none⟩) rfl _
        refine .inr ⟨rfl, bH6.out.trans ((b8h.out.mono (by have := bH6.out.size; omega)).trans (kk.below hP8.out.hob)), ((((Only.of_below b0.out).trans (Only.of_below b05)).trans (on6.out.mono (fun b _ q => .inr (.inr ⟨i, m, by omega, hm.out, by rw [hrb.out, q]; rfl⟩)))).trans (Only.of_below b8h.out)).trans (Only.of_kept kk (.inl rfl)), g', D, y, u, hP.out, ⟨(xn : Int), ⟨xl, hRi.out, hmem.out, by rw [hxl.out]⟩, by omega⟩, hP8.out.swap2 (hO6.out.below b8h.out) (fun b f => ?_) (fun b x => by have := h.out.mine.xlt b x; omega)⟩
        rcases rows_put (K := b + 1) (m' := { m with ms := m.ms.set k ⟨u, y⟩ }) hm.out (fun b f => .inl f) b f with f | f
        · have := (h.out.mine.ge f).2; omega
        · omega
end Go.Proofs.YtnmcgmpmcliinaaGreat
