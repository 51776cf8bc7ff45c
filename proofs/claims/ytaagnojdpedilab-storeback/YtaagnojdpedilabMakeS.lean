/-
  The contract of store.Make. Nothing here is trusted.
-/
import Derived.Test.YtaagnojdpedilabMakeB
set_option linter.unusedVariables false
namespace Go.Proofs.Ytaagnojdpedilab
open Go.RowKit

/-- what the closure of store.Make finds: the block, the place for the address -/
structure MakeEnv (w : World) (lim bb ab : Nat) (K : Blk) (ka : Option Addr) (kn kc : Nat) (ba : Option Addr) (bn bc : Nat) : Prop where
  cb : CellsAt w bb #[.int .i64 K.refs, .int .i64 K.level, .slice ka kn kc, .slice ba bn bc] 28
  ca : CellsAt w ab #[.int .i64 0] 3
  kids : NumsAt (fun b => b < lim) .i64 w ka kn K.kids
  bytes : NumsAt (fun b => b < lim) .u8 w ba bn K.bytes
  level : -9223372036854775808 ≤ K.level ∧ K.level ≤ 9223372036854775807
  caps : kn ≤ kc ∧ bn ≤ bc
  ne : bb ≠ ab
  la : ab < lim
  lb : bb < lim
theorem MakeEnv.below {w w' : World} {lim bb ab : Nat} {K : Blk} {ka : Option Addr} {kn kc : Nat} {ba : Option Addr} {bn bc : Nat} (h : MakeEnv w lim bb ab K ka kn kc ba bn bc) (b : Below w.heap.size w w') : MakeEnv w' lim bb ab K ka kn kc ba bn bc :=
  ⟨h.cb.below b, h.ca.below b, h.kids.below b, h.bytes.below b, h.level, h.caps, h.ne, h.la, h.lb⟩

/-- what was there but two blocks is as it was -/
structure Out2 (g h : Nat) (w w' : World) : Prop where
  os : w'.os = w.os
  tape : w'.tape = w.tape
  output : w'.output = w.output
  size : w.heap.size ≤ w'.heap.size
  block : ∀ k, k < w.heap.size → k ≠ g → k ≠ h → w'.heap[k]? = w.heap[k]?
theorem Out2.of {g h : Nat} {a b c : World} (x : Out g a b) (y : Kept h b c) : Out2 g h a c :=
  ⟨y.os.trans x.os, y.tape.trans x.tape, y.output.trans x.output, by rw [y.size]; exact x.size, fun k hk hg hh => (y.block k hh).trans (x.block k hk hg)⟩
theorem Out.setNew {g : Nat} {w w' : World} (h : Out g w w') {a : Addr} (ha : w.heap.size ≤ a.block) {v : Value} : Out g w (w'.setCell a v) :=
  ⟨h.os, h.tape, h.output, by simpa using h.size, fun k hk hg => by rw [Below.heap_setCell _ _ _ _ (by omega)]; exact h.block k hk hg⟩

/-- what the closure of store.Make answers, and leaves -/
def DidMake (e : Ending) (p : Addr) (g n : Nat) (B : Nat → Blk) (K : Blk) (ab : Nat) (w : World) : Prop :=
  (∃ e' : Int, e = .returned (.int .i64 e') ∧ e' ≠ 0 ∧ ¬ Makeable n B K ∧ CellsAt w ab #[.int .i64 0] 3) ∨
  (∃ i : Nat, i < n ∧ e = .returned (.int .i64 0) ∧ Makeable n B K ∧ (B i).refs = 0 ∧ (∀ k, k < i → (B k).refs ≠ 0) ∧ OwnPtr w p g n (made B K i) ∧ CellsAt w ab #[.int .i64 ((i : Int) + 1)] 3)

set_option maxHeartbeats 1000000 in
set_option maxRecDepth 100000 in
theorem doMake_any (p : Addr) (g n bb ab lim : Nat) (B : Nat → Blk) (K : Blk) (ka : Option Addr) (kn kc : Nat) (ba : Option Addr) (bn bc : Nat) (w : World) (h : OwnPtr w p g n B) (hlim : lim ≤ g) (hpa : p.block ≠ ab)
    (hE : MakeEnv w lim bb ab K ka kn kc ba bn bc) :
    Calls Try.prog 42 #[.pointer (some p), .pointer (some ⟨bb, 0, none⟩), .pointer (some ⟨ab, 0, none⟩)] w fun e w' => DidMake e p g n B K ab w' ∧ Out2 g ab w w' := by
  have c0 := hE.cb.cell 0
  have c1 := hE.cb.cell 1
  have c2 := hE.cb.cell 2
  have c3 := hE.cb.cell 3
  simp at c0 c1 c2 c3
  have hla := hE.la
  replace hE := hid hE
  replace h := hid h
  go_enter Try.func42, Try.ntmps42
  go_wp2_with fail
  refine (make_any p g n B K ka kn kc ba bn bc (fun b => b < lim) w h.out (fun b h => by omega) hE.out.kids hE.out.bytes hE.out.level hE.out.caps).mono ?_
  rintro e w1 ⟨hD, hO⟩
  have ka1 : CellsAt w1 ab #[.int .i64 0] 3 := by
    unfold CellsAt
    rw [hO.block ab hE.out.ca.lt (by omega)]
    exact hE.out.ca
  have a0 := ka1.cell 0
  have f0 := ka1.frozen 0
  simp at a0
  clear c0 c1 c2 c3
  replace hO := hid hO
  replace ka1 := hid ka1
  rcases hD with ⟨e', rfl, he, hn, _⟩ | ⟨i, hi, rfl, hy, hi0, hmin, hC⟩
  · replace hn := hid hn
    go_wp2_with fail
    go_ret
    have k2 := ka1.out.set 0 (.int .i64 0)
    simp only [List.setIfInBounds_toArray, List.set_cons_zero] at k2
    exact ⟨.inl ⟨e', rfl, he, hn.out, k2⟩, Out2.of hO.out (Kept.setCell (g := ab) (Kept.refl _ w1) (p := ⟨ab, 0, none⟩) rfl _)⟩
  · replace hy := hid hy
    replace hi0 := hid hi0
    replace hmin := hid hmin
    replace hC := hid hC
    go_wp2_with fail
    go_ret
    have k2 := ka1.out.set 0 (.int .i64 ((i : Int) + 1))
    simp only [List.setIfInBounds_toArray, List.set_cons_zero] at k2
    have kk := Kept.setCell (g := ab) (Kept.refl _ w1) (p := ⟨ab, 0, none⟩) rfl (.int .i64 ((i : Int) + 1))
    have hC2 : OwnPtr (w1.setCell ⟨ab, 0, none⟩ (.int .i64 ((i : Int) + 1))) p g n (made B K i) :=
      ⟨by simpa using hC.out.lt, hC.out.ne, (kk.cell hpa).trans hC.out.cell, by simpa using hC.out.own.lt, hC.out.own.blocks.kept (by omega) (fun b h => by omega) kk, fun j hj => by simpa using hC.out.own.free j hj⟩
    exact ⟨.inr ⟨i, hi, rfl, hy.out, hi0.out, hmin.out, hC2, k2⟩, Out2.of hO.out kk⟩

/-- what store.change answers to the closure of store.Make -/
def RetMake (base : Nat) (e : Ending) (w : World) (n : Nat) (B : Nat → Blk) (K : Blk) (ab : Nat) : Prop :=
  (∃ e', e = .returned (.tuple #[.agg #[.slice none 0 0], .int .i64 e']) ∧ e' ≠ 0 ∧ ¬ Makeable n B K ∧ CellsAt w ab #[.int .i64 0] 3) ∨
  (∃ i : Nat, i < n ∧ Makeable n B K ∧ (B i).refs = 0 ∧ (∀ k, k < i → (B k).refs ≠ 0) ∧ RetS base e w n (made B K i) ∧ CellsAt w ab #[.int .i64 ((i : Int) + 1)] 3)

set_option maxHeartbeats 2000000 in
set_option maxRecDepth 100000 in
theorem changeMake_any (a : Option Addr) (n c bb ab : Nat) (B : Nat → Blk) (K : Blk) (ka : Option Addr) (kn kc : Nat) (ba : Option Addr) (bn bc : Nat) (w : World) (h : StoreAt w a n B)
    (hE : MakeEnv w w.heap.size bb ab K ka kn kc ba bn bc) :
    Calls Try.prog 41 #[.agg #[.slice a n c], .func (.func 42) #[] #[.pointer (some ⟨bb, 0, none⟩), .pointer (some ⟨ab, 0, none⟩)]] w fun e w' => RetMake w.heap.size e w' n B K ab ∧ Out ab w w' := by
  have b0 := (below_alloc w (.cells #[.slice a n c] 24)).alloc (by simp) (.cells #[.slice none 0 0] 24)
  have k1 : CellsAt _ w.heap.size #[.slice a n c] 24 := (cellsAt_alloc w _ _).below (below_alloc _ (.cells #[.slice none 0 0] 24))
  have k2 := cellsAt_alloc2 w (.cells #[.slice a n c] 24) #[.slice none 0 0] 24
  have hsz : w.heap.size + 2 = ((w.alloc (.cells #[.slice a n c] 24)).alloc (.cells #[.slice none 0 0] 24)).heap.size := by simp
  replace h := h.below b0
  have hab := hE.ca.lt
  replace hE := hE.below b0
  replace k1 := hid k1
  replace k2 := hid k2
  replace hsz := hid hsz
  go_enter Try.func41, Try.ntmps41
  go_wp2_with fail
  generalize (w.alloc (.cells #[.slice a n c] 24)).alloc (.cells #[.slice none 0 0] 24) = w0 at *
  refine (storeCheck_any a n c B w0 h).mono ?_
  rintro e w1 ⟨⟨e', rfl, he⟩, b1⟩
  replace he := hid he
  replace h := h.below b1
  replace hE := hE.below b1
  replace hE := hid hE
  replace k1 := k1.out.below b1
  replace k2 := k2.out.below b1
  have hsz1 : w.heap.size + 2 ≤ w1.heap.size := by have := hsz.out; have := b1.size; omega
  replace b1 := Below.tr b0 b1
  clear b0 hsz
  have s1 := k1.cell 0
  have s2 := k2.cell 0
  have f2 := k2.frozen 0
  simp at s1 s2
  by_cases h0 : e' = 0
  · have h0' : (e' == 0) = true := by simp [h0]
    have hR := he.out.1 h0
    have hF4 : ∀ i, i < n → (B i).kids.length ≤ 4 ∧ (B i).bytes.length ≤ 4 := fun i hi => ⟨(hR.one i hi).few, (hR.one i hi).few2⟩
    have hn := hR.small
    replace hR := hid hR
    replace k1 := hid k1
    replace k2 := hid k2
    go_wp2_with fail
    refine (copy_any ⟨w.heap.size, 0, none⟩ a n c B w1 ⟨by simp; omega, s1, h⟩ hn hF4).mono ?_
    rintro e w2 ⟨b2, g, rfl, hg, hO⟩
    replace k2 := hid (k2.out.below b2)
    replace hE := hid (hE.out.below b2)
    have hsz2 := b2.size
    replace b2 := Below.tr b1 b2
    clear b1 s1 s2 f2 k1 hF4 h
    replace hO := hid hO
    go_wp2_with fail
    have b3 := below_alloc w2 (.cells #[.slice (some ⟨g, 0, none⟩) n n] 24)
    have k3 := cellsAt_alloc w2 #[.slice (some ⟨g, 0, none⟩) n n] 24
    have hgl := hO.out.lt
    have hO3 := hO.out.below b3
    replace k2 := k2.out.below b3
    replace hE := hE.out.below b3
    replace b3 := Below.tr b2 b3
    have hsz3 : w2.heap.size < (w2.alloc (.cells #[.slice (some ⟨g, 0, none⟩) n n] 24)).heap.size := by simp
    clear hO b2
    generalize w2.alloc (.cells #[.slice (some ⟨g, 0, none⟩) n n] 24) = w3 at *
    have e3 := k3.cell 0
    simp at e3
    have hP : OwnPtr w3 ⟨w2.heap.size, 0, none⟩ g n B := ⟨hsz3, by simp; omega, e3, hO3⟩
    refine (doMake_any ⟨w2.heap.size, 0, none⟩ g n bb ab w.heap.size B K ka kn kc ba bn bc w3 hP (by omega) (by simp; omega) hE).mono ?_
    rintro e w4 ⟨hD, hOut⟩
    have hb4 : w4.heap[w.heap.size + 1]? = w3.heap[w.heap.size + 1]? := hOut.block _ (by omega) (by omega) (by omega)
    have k4 : CellsAt w4 (w.heap.size + 1) #[.slice none 0 0] 24 := by
      unfold CellsAt
      rw [hb4]
      exact k2
    have c2 := k4.cell 0
    have f2 := k4.frozen 0
    have b4 : Out ab w w4 := ⟨hOut.os.trans b3.os, hOut.tape.trans b3.tape, hOut.output.trans b3.output, Nat.le_trans b3.size hOut.size, fun k hk hka => (hOut.block k (by omega) (by omega) hka).trans (b3.block k hk)⟩
    simp at c2
    clear k2 k3 hP hO3 e3 b3 hE hOut hb4 k4
    rcases hD with ⟨e', rfl, he', hno, hA⟩ | ⟨i, hi, rfl, hy, hi0, hmin, hC, hA⟩
    · have he2 : (e' == 0) = false := by simp [he']
      replace hno := hid hno
      replace hA := hid (hA.past (a := ⟨w.heap.size + 1, 0, none⟩) (by simp; omega) (.slice none 0 0))
      go_wp2_with fail
      refine bodyPost_ret (v := .tuple #[.agg #[.slice none 0 0], .int .i64 e']) (by rw [results_cell_tmp rfl]; go_simp) rfl ⟨.inl ⟨e', rfl, he', hno.out, hA.out⟩, b4.setNew (by simp)⟩
    · have e4 := hC.cell
      have kk := Kept.setCell (g := w.heap.size + 1) (Kept.refl _ w4) (p := ⟨w.heap.size + 1, 0, none⟩) rfl (.slice (some ⟨g, 0, none⟩) n n)
      have hSt : g < (w4.setCell ⟨w.heap.size + 1, 0, none⟩ (.slice (some ⟨g, 0, none⟩) n n)).heap.size ∧ Blocks (fun b => w.heap.size ≤ b) (w4.setCell ⟨w.heap.size + 1, 0, none⟩ (.slice (some ⟨g, 0, none⟩) n n)) g 0 n (made B K i) :=
        ⟨by simpa using hC.own.lt, (hC.own.blocks.kept (by omega) (fun b h => by omega) kk).weaken (fun b _ h => by omega)⟩
      replace hA := hid (hA.past (a := ⟨w.heap.size + 1, 0, none⟩) (by simp; omega) (.slice (some ⟨g, 0, none⟩) n n))
      replace hSt := hid hSt
      replace hC := hid hC
      replace hy := hid hy
      replace hi0 := hid hi0
      replace hmin := hid hmin
      clear kk
      go_wp2_with fail
      refine bodyPost_ret (v := .tuple #[.agg #[.slice (some ⟨g, 0, none⟩) n n], .int .i64 0]) (by rw [results_cell_tmp rfl]; go_simp) rfl ⟨.inr ⟨i, hi, hy.out, hi0.out, hmin.out, ⟨g, n, rfl, by omega, hSt.out⟩, hA.out⟩, b4.setNew (by simp)⟩
  · have h0' : (e' == 0) = false := by simp [h0]
    have hA := hid (hE.out.ca.past (a := ⟨w.heap.size + 1, 0, none⟩) (by simp; omega) (.slice none 0 0))
    go_wp2_with fail
    refine bodyPost_ret (v := .tuple #[.agg #[.slice none 0 0], .int .i64 e']) (by rw [results_cell_tmp rfl]; go_simp) rfl ⟨.inl ⟨e', rfl, h0, fun f => h0 (he.out.2 f.1), hA.out⟩, (Out.of_below b1).setNew (by simp)⟩

theorem results_cell_tmps {fn : Func} {p u v : Tmp} {ty : TypeId} (h : fn.results = #[.cell p ty, .tmp u, .tmp v]) (tmps : Array Value) (P : Program) (w : World) :
    (results fn tmps).run P w =
      ((asAddr (tmps.getD p undef)).run P w).andThen fun a w₁ => ((loadVar ty a).run P w₁).andThen fun x w₂ => .ok (.tuple #[x, tmps.getD u undef, tmps.getD v undef]) w₂ := by
  simp only [results, h]
  simp [Sem.run_bind, Result.andThen]

/-- what store.Make answers -/
def RetMade (base : Nat) (e : Ending) (w : World) (n : Nat) (B : Nat → Blk) (K : Blk) : Prop :=
  (∃ e', e = .returned (.tuple #[.agg #[.slice none 0 0], .int .i64 0, .int .i64 e']) ∧ e' ≠ 0 ∧ ¬ Makeable n B K) ∨
  (∃ i : Nat, i < n ∧ Makeable n B K ∧ (B i).refs = 0 ∧ (∀ k, k < i → (B k).refs ≠ 0) ∧ ∃ g c, e = .returned (.tuple #[.agg #[.slice (some ⟨g, 0, none⟩) n c], .int .i64 ((i : Int) + 1), .int .i64 0]) ∧ base ≤ g ∧ g < w.heap.size ∧ Blocks (fun b => base ≤ b) w g 0 n (made B K i))

theorem cellsAt_alloc4 (w : World) (o q r : Obj) (cs : Array Value) (t : TypeId) : CellsAt ((((w.alloc o).alloc q).alloc r).alloc (.cells cs t)) (w.heap.size + 3) cs t := by
  have := cellsAt_alloc3 (w.alloc o) q r cs t
  simpa [Nat.add_assoc, Nat.add_comm, Nat.add_left_comm] using this

set_option maxHeartbeats 2000000 in
set_option maxRecDepth 100000 in
theorem storeMake_any (a : Option Addr) (n c : Nat) (B : Nat → Blk) (K : Blk) (ka : Option Addr) (kn kc : Nat) (ba : Option Addr) (bn bc : Nat) (Q : Nat → Prop) (w : World) (h : StoreAt w a n B)
    (hk : NumsAt Q .i64 w ka kn K.kids) (hb : NumsAt Q .u8 w ba bn K.bytes) (hl : -9223372036854775808 ≤ K.level ∧ K.level ≤ 9223372036854775807) (hcc : kn ≤ kc ∧ bn ≤ bc) :
    Calls Try.prog 10 #[.agg #[.slice a n c], .agg #[.int .i64 K.refs, .int .i64 K.level, .slice ka kn kc, .slice ba bn bc]] w fun e w' => RetMade w.heap.size e w' n B K ∧ Below w.heap.size w w' := by
  have hmf : ∀ (fn : Fn) (first cap : Array Value) (w : World), (Instr.makeFunc fn first cap).run Try.prog w = .ok (.func fn first cap) w := fun _ _ _ _ => rfl
  have b0 := (((below_alloc w (.cells #[.slice a n c] 24)).alloc (by simp) (.cells #[.int .i64 K.refs, .int .i64 K.level, .slice ka kn kc, .slice ba bn bc] 28)).alloc (by simp; omega) (.cells #[.slice none 0 0] 24)).alloc (by simp; omega) (.cells #[.int .i64 0] 3)
  have ks : CellsAt _ w.heap.size #[.slice a n c] 24 := (((cellsAt_alloc w _ _).below (below_alloc _ (.cells #[.int .i64 K.refs, .int .i64 K.level, .slice ka kn kc, .slice ba bn bc] 28))).below (below_alloc _ (.cells #[.slice none 0 0] 24))).below (below_alloc _ (.cells #[.int .i64 0] 3))
  have kb : CellsAt _ (w.heap.size + 1) #[.int .i64 K.refs, .int .i64 K.level, .slice ka kn kc, .slice ba bn bc] 28 := ((cellsAt_alloc2 w (.cells #[.slice a n c] 24) _ _).below (below_alloc _ (.cells #[.slice none 0 0] 24))).below (below_alloc _ (.cells #[.int .i64 0] 3))
  have kr : CellsAt _ (w.heap.size + 2) #[.slice none 0 0] 24 := (cellsAt_alloc3 w (.cells #[.slice a n c] 24) (.cells #[.int .i64 K.refs, .int .i64 K.level, .slice ka kn kc, .slice ba bn bc] 28) _ _).below (below_alloc _ (.cells #[.int .i64 0] 3))
  have kA : CellsAt _ (w.heap.size + 3) #[.int .i64 0] 3 := cellsAt_alloc4 w (.cells #[.slice a n c] 24) (.cells #[.int .i64 K.refs, .int .i64 K.level, .slice ka kn kc, .slice ba bn bc] 28) (.cells #[.slice none 0 0] 24) _ _
  have hsz : w.heap.size + 4 = ((((w.alloc (.cells #[.slice a n c] 24)).alloc (.cells #[.int .i64 K.refs, .int .i64 K.level, .slice ka kn kc, .slice ba bn bc] 28)).alloc (.cells #[.slice none 0 0] 24)).alloc (.cells #[.int .i64 0] 3)).heap.size := by simp
  replace h := h.below b0
  have hE : MakeEnv ((((w.alloc (.cells #[.slice a n c] 24)).alloc (.cells #[.int .i64 K.refs, .int .i64 K.level, .slice ka kn kc, .slice ba bn bc] 28)).alloc (.cells #[.slice none 0 0] 24)).alloc (.cells #[.int .i64 0] 3)) (w.heap.size + 4) (w.heap.size + 1) (w.heap.size + 3) K ka kn kc ba bn bc :=
    ⟨kb, kA, (hk.weaken (R := fun b => b < w.heap.size + 4) (fun b h _ => by omega)).below b0, (hb.weaken (R := fun b => b < w.heap.size + 4) (fun b h _ => by omega)).below b0, hl, hcc, by omega, by omega, by omega⟩
  replace hE := hid hE
  replace ks := hid ks
  replace kr := hid kr
  replace hsz := hid hsz
  clear kb kA hk hb
  go_enter Try.func10, Try.ntmps10
  go_wp2_with fail
  generalize (((w.alloc (.cells #[.slice a n c] 24)).alloc (.cells #[.int .i64 K.refs, .int .i64 K.level, .slice ka kn kc, .slice ba bn bc] 28)).alloc (.cells #[.slice none 0 0] 24)).alloc (.cells #[.int .i64 0] 3) = w0 at *
  refine (changeMake_any a n c (w.heap.size + 1) (w.heap.size + 3) B K ka kn kc ba bn bc w0 h (by have := hE.out; rw [hsz.out] at this; exact this)).mono ?_
  rintro e w1 ⟨hD, hO⟩
  have hs4 := hsz.out
  have ks1 : CellsAt w1 w.heap.size #[.slice a n c] 24 := by
    unfold CellsAt
    rw [hO.block _ (by omega) (by omega)]
    exact ks.out
  have kr1 : CellsAt w1 (w.heap.size + 2) #[.slice none 0 0] 24 := by
    unfold CellsAt
    rw [hO.block _ (by omega) (by omega)]
    exact kr.out
  have b1 : Below w.heap.size w w1 := b0.trans (hO.below (by omega) (by omega))
  have p0 := ks1.cell 0
  have p1 := ks1.frozen 0
  have r0 := kr1.cell 0
  have r1 := kr1.frozen 0
  simp at p0 r0
  clear b0 h hE ks kr hO ks1 kr1 hsz
  rcases hD with ⟨e', rfl, he', hno, hA⟩ | ⟨i, hi, hy, hi0, hmin, ⟨g, gc, rfl, hg, hgl, hSt⟩, hA⟩
  · replace hno := hid hno
    have a0 := hA.cell 0
    simp at a0
    clear hA
    go_wp2_with fail
    go_region
    go_wp2_with fail
    refine bodyPost_ret (v := .tuple #[.agg #[.slice none 0 0], .int .i64 0, .int .i64 e']) (by rw [results_cell_tmps rfl]; go_simp) rfl ⟨.inl ⟨e', rfl, he', hno.out⟩, ((b1.setCell (Nat.le_refl _) _).setCell (by simp; omega) _).drew⟩
  · have kk1 := Kept.setCell (g := w.heap.size) (Kept.refl _ w1) (p := ⟨w.heap.size, 0, none⟩) rfl (.slice (some ⟨g, 0, none⟩) n gc)
    have kk2 := Kept.setCell (g := w.heap.size + 1 + 1) (Kept.refl _ (w1.setCell ⟨w.heap.size, 0, none⟩ (.slice (some ⟨g, 0, none⟩) n gc))) (p := ⟨w.heap.size + 1 + 1, 0, none⟩) rfl (.slice (some ⟨g, 0, none⟩) n gc)
    have hSt2 := ((hSt.kept (by omega) (fun b h => by omega) kk1).kept (by omega) (fun b h => by omega) kk2).weaken (R := fun b => w.heap.size ≤ b) (fun b _ h => by omega)
    have hgl2 : g < ((w1.setCell ⟨w.heap.size, 0, none⟩ (.slice (some ⟨g, 0, none⟩) n gc)).setCell ⟨w.heap.size + 1 + 1, 0, none⟩ (.slice (some ⟨g, 0, none⟩) n gc)).heap.size := by simpa using hgl
    have a0 := hA.cell 0
    simp at a0
    replace hSt2 := hid hSt2
    replace hy := hid hy
    replace hi0 := hid hi0
    replace hmin := hid hmin
    replace hgl2 := hid hgl2
    clear hA hSt kk1 kk2
    go_wp2_with fail
    go_region
    go_wp2_with fail
    refine bodyPost_ret (v := .tuple #[.agg #[.slice (some ⟨g, 0, none⟩) n gc], .int .i64 ((i : Int) + 1), .int .i64 0]) (by rw [results_cell_tmps rfl]; go_simp) rfl ⟨.inr ⟨i, hi, hy.out, hi0.out, hmin.out, g, gc, rfl, by omega, hgl2.out, hSt2.out.below (below_drew _ _)⟩, ((b1.setCell (Nat.le_refl _) _).setCell (by simp; omega) _).drew⟩

end Go.Proofs.Ytaagnojdpedilab
