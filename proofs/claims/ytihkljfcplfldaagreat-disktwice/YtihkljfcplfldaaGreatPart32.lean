/-
  RdH, ImgG in one text. Nothing here is trusted.
-/
import Derived.Test.YtihkljfcplfldaaGreatPart31
set_option linter.unusedVariables false
namespace Go.Proofs.YtihkljfcplfldaaGreat
open Go.RowKit

/-- what parse answers -/
def RetPa (base : Nat) (b : List Int) (e : Ending) (w : World) : Prop :=
  (∃ x v, poolP b = some (x, []) ∧ e = .returned (.tuple #[v, .int .i64 0]) ∧ PoolV base x v w) ∨ ((∀ x, poolP b ≠ some (x, [])) ∧ e = .returned (.tuple #[.agg #[.slice none 0 0, .slice none 0 0], .int .i64 9]))

theorem results_cells_two {fn : Func} {p q : Tmp} {ty tz : TypeId} (h : fn.results = #[.cell p ty, .cell q tz]) (tmps : Array Value) (P : Program) (w : World) :
    (results fn tmps).run P w =
      ((asAddr (tmps.getD p undef)).run P w).andThen fun a w₁ => ((loadVar ty a).run P w₁).andThen fun x w₂ => ((asAddr (tmps.getD q undef)).run P w₂).andThen fun b w₃ => ((loadVar tz b).run P w₃).andThen fun y w₄ => .ok (.tuple #[x, y]) w₄ := by
  simp only [results, h]
  simp [Sem.run_bind, Result.andThen]

set_option maxHeartbeats 4000000 in
set_option maxRecDepth 100000 in
theorem parse_any (Q : Nat → Prop) (ba : Option Addr) (bn bc : Nat) (b : List Int) (w : World) (hN : NumsAt Q .u8 w ba bn b) (hcap : bn ≤ bc) (hbig : bc ≤ maxLen) (hnil : ba = none → bc = 0) :
    Calls Tryz.prog 115 #[.slice ba bn bc] w fun e w' => RetPa w.heap.size b e w' ∧ Below w.heap.size w w' := by
  have hmf : ∀ (fn : Fn) (first cap : Array Value) (w : World), (Instr.makeFunc fn first cap).run Tryz.prog w = .ok (.func fn first cap) w := fun _ _ _ _ => rfl
  have b3 : Hid (Below w.heap.size w (((w.alloc (.cells #[.slice none 0 0, .slice none 0 0] 27)).alloc (.cells #[.int .i64 0] 31)).alloc (.cells #[.slice ba bn bc] 205))) := hid (((below_alloc w _).alloc (by simp) _).alloc (by simp; omega) _)
  have kp : Hid (CellsAt (((w.alloc (.cells #[.slice none 0 0, .slice none 0 0] 27)).alloc (.cells #[.int .i64 0] 31)).alloc (.cells #[.slice ba bn bc] 205)) w.heap.size #[.slice none 0 0, .slice none 0 0] 27) := hid (((cellsAt_alloc w _ _).below (below_alloc _ _)).below (below_alloc _ _))
  have ke : Hid (CellsAt (((w.alloc (.cells #[.slice none 0 0, .slice none 0 0] 27)).alloc (.cells #[.int .i64 0] 31)).alloc (.cells #[.slice ba bn bc] 205)) (w.heap.size + 1) #[.int .i64 0] 31) := hid ((cellsAt_alloc2 w _ _ _).below (below_alloc _ _))
  have kr : Hid (CellsAt (((w.alloc (.cells #[.slice none 0 0, .slice none 0 0] 27)).alloc (.cells #[.int .i64 0] 31)).alloc (.cells #[.slice ba bn bc] 205)) (w.heap.size + 1 + 1) #[.slice ba bn bc] 205) := hid (cellsAt_alloc3 w _ _ _ _)
  have hsz : Hid (w.heap.size + 3 ≤ (((w.alloc (.cells #[.slice none 0 0, .slice none 0 0] 27)).alloc (.cells #[.int .i64 0] 31)).alloc (.cells #[.slice ba bn bc] 205)).heap.size) := hid (by simp)
  replace hN := hid hN
  go_enter_defers Tryz.func115, Tryz.ntmps115
  go_wp2_with fail
  generalize ((w.alloc (.cells #[.slice none 0 0, .slice none 0 0] 27)).alloc (.cells #[.int .i64 0] 31)).alloc (.cells #[.slice ba bn bc] 205) = w0 at *
  have hR0 : Hid (RdL w.heap.size w0 (w.heap.size + 1 + 1) b) := hid ⟨ba, bn, bc, kr.out, (hN.out.weaken (R := fun b => b < w.heap.size) (fun b hb _ => hb)).below b3.out, by omega, hcap, hbig, hnil⟩
  refine (rpool_any w.heap.size (w.heap.size + 1 + 1) b w0 hR0.out).mono ?_
  rintro e w1 (⟨x, l, v, hp, rfl, hV, hR1, hO1⟩ | ⟨hp, rfl, hO1⟩)
  · obtain ⟨a, n, c, ta, tn, tc, bm, tm, rfl, hbm, htm, hVB, hVT⟩ := hV
    replace kp := Out.cells hO1 kp.out (by omega)
    replace ke := Out.cells hO1 ke.out (by omega)
    have d0 := kp.cell 0
    have d1 := kp.cell 1
    have f0 := kp.frozen 0
    have f1 := kp.frozen 1
    simp at d0 d1
    have kpt := kept_put2v w1 w.heap.size (.slice a n c) (.slice ta tn tc)
    have op : Only (fun k => k = w.heap.size) w1 (put2v w1 w.heap.size (.slice a n c) (.slice ta tn tc)) := Only.of_kept kpt rfl
    have hR2 := hid (hR1.out op (by omega) (fun k hk => by omega))
    have kp2 := hid (cells_put2v (.slice a n c) (.slice ta tn tc) kp)
    have ke2 := hid (op.cells ke (by omega))
    have hVB2 := hid (hVB.only blkAt_ok op (fun b hb e => by have := hsz.out; omega))
    have hVT2 := hid (hVT.only tenAt_ok op (fun b hb e => by have := hsz.out; omega))
    have hb2 : Hid (Below w.heap.size w (put2v w1 w.heap.size (.slice a n c) (.slice ta tn tc))) := hid ((b3.out.trans (hO1.below (by omega) (by have := hsz.out; omega))).trans (op.below (fun k hk => by omega) (by have := hsz.out; have := hO1.size; omega)))
    replace hp := hid hp
    replace hbm := hid hbm
    replace htm := hid htm
    have hs1 := hid hO1.size
    replace kp := hid kp
    replace ke := hid ke
    clear hVB hVT hR1 hO1 kpt op
    go_upto_region 4 with fail
    clear d0 d1 f0 f1
    unfold put2v at hR2 kp2 ke2 hVB2 hVT2 hb2
    generalize (w1.setCell ⟨w.heap.size, 0, none⟩ (.slice a n c)).setCell ⟨w.heap.size, 1, none⟩ (.slice ta tn tc) = w2 at *
    clear kp ke
    go_wp2_with fail
    refine (rend_any w.heap.size (w.heap.size + 1 + 1) l w2 hR2.out).mono ?_
    rintro e w3 ⟨⟨hl, rfl⟩ | ⟨hl, rfl⟩, rfl⟩
    · subst hl
      have g0 := kp2.out.cell 0
      have g1 := kp2.out.cell 1
      have g2 := kp2.out.frozen 0
      have g3 := kp2.out.frozen 1
      have g4 := ke2.out.cell 0
      have g5 := ke2.out.frozen 0
      simp at g0 g1 g4
      have kpt := kept_put2v w3 w.heap.size (.slice a n c) (.slice ta tn tc)
      have op : Only (fun k => k = w.heap.size ∨ k = w.heap.size + 1) w3 (put2v w3 w.heap.size (.slice a n c) (.slice ta tn tc)) := Only.of_kept kpt (.inl rfl)
      have ket := Kept.setCell (g := w.heap.size + 1) (Kept.refl _ (put2v w3 w.heap.size (.slice a n c) (.slice ta tn tc))) (p := ⟨w.heap.size + 1, 0, none⟩) rfl (.int .i64 0)
      have oe : Only (fun k => k = w.heap.size ∨ k = w.heap.size + 1) (put2v w3 w.heap.size (.slice a n c) (.slice ta tn tc)) ((put2v w3 w.heap.size (.slice a n c) (.slice ta tn tc)).setCell ⟨w.heap.size + 1, 0, none⟩ (.int .i64 0)) := Only.of_kept ket (.inr rfl)
      have oo := op.trans oe
      have hVB3 := hid ((hVB2.out.only blkAt_ok oo (fun b hb e => by have := hsz.out; omega)).base blkAt_ok (base' := w.heap.size) (by have := hsz.out; omega))
      have hVT3 := hid ((hVT2.out.only tenAt_ok oo (fun b hb e => by have := hsz.out; omega)).base tenAt_ok (base' := w.heap.size) (by have := hsz.out; omega))
      have hb3 := hid (hb2.out.trans (oo.below (fun k hk => by omega) hb2.out.size))
      have cp := cells_put2v (.slice a n c) (.slice ta tn tc) kp2.out
      have cp3 := hid ((Only.of_kept (M := fun k => k = w.heap.size + 1) ket rfl).cells cp (by omega))
      have ce := (Only.of_kept (M := fun k => k = w.heap.size) kpt rfl).cells ke2.out (by omega)
      have ce3 := ce.set 0 (.int .i64 0)
      simp only [List.setIfInBounds_toArray, List.set_cons_zero] at ce3
      replace ce3 := hid ce3
      clear kpt op ket oe oo cp ce
      unfold put2v at hVB3 hVT3 hb3 cp3 ce3
      go_wp2_with fail
      refine leaves_cons (f := 137) (args := #[.pointer (some ⟨w.heap.size, 0, none⟩), .pointer (some ⟨w.heap.size + 1, 0, none⟩)]) (by simp) (by simp [go_sem]) ?_
      refine (door_idle w.heap.size (w.heap.size + 1) _).mono ?_
      rintro e u' w4 ⟨rfl, rfl, rfl⟩
      clear g0 g1 g2 g3 g4 g5
      have c0 := cp3.out.cell 0
      have c1 := cp3.out.cell 1
      have c2 := ce3.out.cell 0
      simp only [List.getElem?_toArray, List.getElem?_cons_zero, List.getElem?_cons_succ] at c0 c1 c2
      refine ⟨.tuple #[.agg #[.slice a n c, .slice ta tn tc], .int .i64 0], ?_, .inl ⟨x, _, hp.out, rfl, a, n, c, ta, tn, tc, bm, tm, rfl, hbm.out, htm.out, hVB3.out, hVT3.out⟩, hb3.out⟩
      rw [results_cells_two rfl]
      go_simp
    · have hno : Hid (∀ x, poolP b ≠ some (x, [])) := hid (fun y e => by rw [hp.out] at e; simp only [Option.some.injEq, Prod.mk.injEq] at e; exact hl e.2)
      clear hl
      go_wp2_with fail
      refine leaves_cons (f := 137) (args := #[.pointer (some ⟨w.heap.size, 0, none⟩), .pointer (some ⟨w.heap.size + 1, 0, none⟩)]) (by simp [tornC]) (by simp [go_sem]) ?_
      refine (door_panics w.heap.size (w.heap.size + 1) _ _ _ w3 kp2.out ke2.out (by omega)).mono ?_
      rintro e u' w4 ⟨rfl, rfl, hC⟩
      have hb3 : Below w.heap.size w w4 := hb2.out.trans (hC.only.below (fun k hk => by omega) hb2.out.size)
      have c0 := hC.p.cell 0
      have c1 := hC.p.cell 1
      have c2 := hC.e.cell 0
      simp at c0 c1 c2
      refine ⟨.tuple #[.agg #[.slice none 0 0, .slice none 0 0], .int .i64 9], ?_, .inr ⟨hno.out, rfl⟩, hb3⟩
      rw [results_cells_two rfl]
      go_simp
  · replace kp := Out.cells hO1 kp.out (by omega)
    replace ke := Out.cells hO1 ke.out (by omega)
    have hb1 := hid (b3.out.trans (hO1.below (by omega) (by have := hsz.out; omega)))
    have hno : Hid (∀ x, poolP b ≠ some (x, [])) := hid (fun x e => by rw [hp] at e; cases e)
    have hs1 := hid hO1.size
    clear hp hO1
    replace kp := hid kp
    replace ke := hid ke
    go_wp2_with fail
    refine leaves_cons (f := 137) (args := #[.pointer (some ⟨w.heap.size, 0, none⟩), .pointer (some ⟨w.heap.size + 1, 0, none⟩)]) (by simp [tornC]) (by simp [go_sem]) ?_
    refine (door_panics w.heap.size (w.heap.size + 1) _ _ _ w1 kp.out ke.out (by omega)).mono ?_
    rintro e u' w2 ⟨rfl, rfl, hC⟩
    have hb2 : Below w.heap.size w w2 := hb1.out.trans (hC.only.below (fun k hk => by omega) (by have := hsz.out; have := hs1.out; omega))
    have c0 := hC.p.cell 0
    have c1 := hC.p.cell 1
    have c2 := hC.e.cell 0
    simp at c0 c1 c2
    refine ⟨.tuple #[.agg #[.slice none 0 0, .slice none 0 0], .int .i64 9], ?_, .inr ⟨hno.out, rfl⟩, hb2⟩
    rw [results_cells_two rfl]
    go_simp
end Go.Proofs.YtihkljfcplfldaaGreat

namespace Go.Proofs.YtihkljfcplfldaaGreat
open Go.RowKit

/-- a number of two bytes -/
def N16 (x : Int) : Prop := 0 ≤ x ∧ x < 65536
theorem numP_enc {x : Int} (h : N16 x) (r : List Int) : numP (numB x ++ r) = some (x, r) := by
  unfold N16 at h
  simp only [numB, List.cons_append, List.nil_append, numP, Option.some.injEq, Prod.mk.injEq, and_true]
  omega
theorem numP_dec {l r : List Int} {x : Int} (hB : Byt l) (h : numP l = some (x, r)) : l = numB x ++ r ∧ N16 x := by
  match l, h with
  | a :: b :: s, h =>
    simp only [numP, Option.some.injEq, Prod.mk.injEq] at h
    obtain ⟨rfl, rfl⟩ := h
    have h1 := hB a (by simp)
    have h2 := hB b (by simp)
    refine ⟨?_, by unfold N16; omega⟩
    simp only [numB, List.cons_append, List.nil_append, List.cons.injEq, and_true]
    omega
theorem Byt.right {l m : List Int} (h : Byt (l ++ m)) : Byt m := fun x hx => h x (List.mem_append_right _ hx)
theorem Byt.left {l m : List Int} (h : Byt (l ++ m)) : Byt l := fun x hx => h x (List.mem_append_left _ hx)

theorem bytesP_enc {b : List Int} (h : b.length < 65536) (r : List Int) : bytesP (bytesB b ++ r) = some (b, r) := by
  unfold bytesP bytesB
  rw [List.append_assoc, numP_enc (by unfold N16; omega)]
  simp
theorem bytesP_dec {l r b : List Int} (hB : Byt l) (h : bytesP l = some (b, r)) : l = bytesB b ++ r ∧ b.length < 65536 := by
  unfold bytesP at h
  cases h1 : numP l with
  | none => simp [h1] at h
  | some p =>
    obtain ⟨n, s⟩ := p
    obtain ⟨rfl, hn⟩ := numP_dec hB h1
    rw [h1] at h
    simp only at h
    by_cases hle : n.toNat ≤ s.length
    · simp only [hle, if_true, Option.some.injEq, Prod.mk.injEq] at h
      obtain ⟨rfl, rfl⟩ := h
      unfold N16 at hn
      have hl : (s.take n.toNat).length = n.toNat := by rw [List.length_take]; omega
      refine ⟨?_, by omega⟩
      unfold bytesB
      rw [hl, List.append_assoc, List.take_append_drop, Int.toNat_of_nonneg hn.1]
    · simp [hle] at h
theorem str_back (s : ByteArray) : strOfNums (strL s) = s := by
  apply bytes_eq
  rw [strOfNums_data, strL, List.map_map]
  have : (fun n : Int => UInt8.ofNat n.toNat) ∘ (fun b : UInt8 => (b.toNat : Int)) = id := by
    funext b
    simp
  rw [this, List.map_id]
theorem str_forth {b : List Int} (hB : Byt b) : strL (strOfNums b) = b := by
  unfold strL
  rw [strOfNums_data, List.map_map]
  conv => rhs; rw [← List.map_id b]
  apply List.map_congr_left
  intro x hx
  have := hB x hx
  simp only [Function.comp, id, UInt8.toNat_ofNat']
  omega
theorem nameP_enc {s : ByteArray} (h : s.size < 65536) (r : List Int) : nameP (nameB s ++ r) = some (s, r) := by
  unfold nameP nameB
  rw [bytesP_enc (by rw [strL_len]; exact h)]
  simp only
  rw [str_back]
theorem nameP_dec {l r : List Int} {s : ByteArray} (hB : Byt l) (h : nameP l = some (s, r)) : l = nameB s ++ r ∧ s.size < 65536 := by
  unfold nameP at h
  cases h1 : bytesP l with
  | none => simp [h1] at h
  | some p =>
    obtain ⟨b, t⟩ := p
    obtain ⟨e, hn⟩ := bytesP_dec hB h1
    rw [h1] at h
    simp only [Option.some.injEq, Prod.mk.injEq] at h
    obtain ⟨rfl, rfl⟩ := h
    have hb : Byt b := by rw [e] at hB; unfold bytesB at hB; exact hB.left.right
    refine ⟨?_, by rw [strOfNums_size]; exact hn⟩
    unfold nameB
    rw [str_forth hb]
    exact e

theorem listP_enc {α : Type} {one : List Int → Option (α × List Int)} {enc : α → List Int} {ok : α → Prop} (h1 : ∀ x r, ok x → one (enc x ++ r) = some (x, r)) : ∀ (xs : List α) (r : List Int), (∀ x ∈ xs, ok x) → listP one xs.length (xs.flatMap enc ++ r) = some (xs, r)
  | [], r, _ => rfl
  | x :: xs, r, h => by
    simp only [List.length_cons, List.flatMap_cons, List.append_assoc, listP]
    rw [h1 x _ (h x (by simp))]
    simp only
    rw [listP_enc h1 xs r (fun y hy => h y (by simp [hy]))]
theorem listP_dec {α : Type} {one : List Int → Option (α × List Int)} {enc : α → List Int} (h1 : ∀ l x r, Byt l → one l = some (x, r) → l = enc x ++ r) : ∀ (n : Nat) (l r : List Int) (xs : List α), Byt l → listP one n l = some (xs, r) → l = xs.flatMap enc ++ r ∧ xs.length = n
  | 0, l, r, xs, _, h => by
    simp only [listP, Option.some.injEq, Prod.mk.injEq] at h
    obtain ⟨rfl, rfl⟩ := h
    exact ⟨rfl, rfl⟩
  | n + 1, l, r, xs, hB, h => by
    simp only [listP] at h
    cases h2 : one l with
    | none => simp [h2] at h
    | some p =>
      obtain ⟨x, s⟩ := p
      have e := h1 l x s hB h2
      simp only [h2] at h
      have hBs : Byt s := by rw [e] at hB; exact hB.right
      cases h3 : listP one n s with
      | none => simp [h3] at h
      | some q =>
        obtain ⟨ys, t⟩ := q
        simp only [h3, Option.some.injEq, Prod.mk.injEq] at h
        obtain ⟨rfl, rfl⟩ := h
        obtain ⟨e2, e3⟩ := listP_dec h1 n s t ys hBs h3
        refine ⟨?_, by rw [List.length_cons, e3]⟩
        rw [e, List.flatMap_cons, List.append_assoc, ← e2]

/-- a list behind its length -/
def lstB {α : Type} (enc : α → List Int) (xs : List α) : List Int := numB (xs.length : Int) ++ xs.flatMap enc
theorem lst_enc {α : Type} {one : List Int → Option (α × List Int)} {enc : α → List Int} {ok : α → Prop} (h1 : ∀ x r, ok x → one (enc x ++ r) = some (x, r)) (xs : List α) (r : List Int) (h : ∀ x ∈ xs, ok x) (hl : xs.length < 65536) :
    (match numP (lstB enc xs ++ r) with | none => none | some (n, l1) => listP one n.toNat l1) = some (xs, r) := by
  unfold lstB
  rw [List.append_assoc, numP_enc (by unfold N16; omega)]
  simp only [Int.toNat_natCast]
  exact listP_enc h1 xs r h
theorem lst_dec {α : Type} {one : List Int → Option (α × List Int)} {enc : α → List Int} (h1 : ∀ l x r, Byt l → one l = some (x, r) → l = enc x ++ r) (l r : List Int) (xs : List α) (hB : Byt l)
    (h : (match numP l with | none => none | some (n, l1) => listP one n.toNat l1) = some (xs, r)) : l = lstB enc xs ++ r := by
  cases h2 : numP l with
  | none => simp [h2] at h
  | some p =>
    obtain ⟨n, s⟩ := p
    obtain ⟨e, hn⟩ := numP_dec hB h2
    simp only [h2] at h
    have hBs : Byt s := by rw [e] at hB; exact hB.right
    obtain ⟨e2, e3⟩ := listP_dec h1 _ s r xs hBs h
    unfold lstB
    unfold N16 at hn
    rw [e3, Int.toNat_of_nonneg hn.1, List.append_assoc, ← e2]
    exact e

def EntN (x : Ent) : Prop := x.name.size < 65536 ∧ N16 x.root ∧ N16 x.size
theorem entP_enc (x : Ent) (r : List Int) (h : EntN x) : entP (entB x ++ r) = some (x, r) := by
  unfold entP entB
  simp only [numsB, List.flatMap_cons, List.flatMap_nil, List.append_nil, List.append_assoc]
  rw [nameP_enc h.1]; simp only
  rw [numP_enc h.2.1]; simp only
  rw [numP_enc h.2.2]
theorem entP_dec (l : List Int) (x : Ent) (r : List Int) (hB : Byt l) (h : entP l = some (x, r)) : l = entB x ++ r := by
  unfold entP at h
  cases h1 : nameP l with
  | none => simp [h1] at h
  | some p =>
    obtain ⟨s, l1⟩ := p
    obtain ⟨e1, _⟩ := nameP_dec hB h1
    simp only [h1] at h
    have B1 : Byt l1 := by rw [e1] at hB; exact hB.right
    cases h2 : numP l1 with
    | none => simp [h2] at h
    | some p =>
      obtain ⟨a, l2⟩ := p
      obtain ⟨e2, _⟩ := numP_dec B1 h2
      simp only [h2] at h
      have B2 : Byt l2 := by rw [e2] at B1; exact B1.right
      cases h3 : numP l2 with
      | none => simp [h3] at h
      | some p =>
        obtain ⟨z, l3⟩ := p
        obtain ⟨e3, _⟩ := numP_dec B2 h3
        simp only [h3, Option.some.injEq, Prod.mk.injEq] at h
        obtain ⟨rfl, rfl⟩ := h
        unfold entB
        simp only [numsB, List.flatMap_cons, List.flatMap_nil, List.append_nil, List.append_assoc]
        rw [← e3, ← e2]
        exact e1
theorem filesB_eq (l : List Ent) : filesB l = lstB entB l := rfl
theorem filesP_enc (xs : List Ent) (r : List Int) (h : ∀ x ∈ xs, EntN x) (hl : xs.length < 65536) : filesP (filesB xs ++ r) = some (xs, r) := lst_enc entP_enc xs r h hl
theorem filesP_dec (l : List Int) (xs : List Ent) (r : List Int) (hB : Byt l) (h : filesP l = some (xs, r)) : l = filesB xs ++ r := lst_dec entP_dec l r xs hB h
def SnapN (x : SnapE) : Prop := x.name.size < 65536 ∧ (∀ e ∈ x.files, EntN e) ∧ x.files.length < 65536
theorem snapP_enc (x : SnapE) (r : List Int) (h : SnapN x) : snapP (snapB x ++ r) = some (x, r) := by
  unfold snapP snapB
  rw [List.append_assoc, nameP_enc h.1]; simp only
  rw [filesP_enc _ _ h.2.1 h.2.2]
theorem snapP_dec (l : List Int) (x : SnapE) (r : List Int) (hB : Byt l) (h : snapP l = some (x, r)) : l = snapB x ++ r := by
  unfold snapP at h
  cases h1 : nameP l with
  | none => simp [h1] at h
  | some p =>
    obtain ⟨s, l1⟩ := p
    obtain ⟨e1, _⟩ := nameP_dec hB h1
    simp only [h1] at h
    have B1 : Byt l1 := by rw [e1] at hB; exact hB.right
    cases h2 : filesP l1 with
    | none => simp [h2] at h
    | some p =>
      obtain ⟨fs, l2⟩ := p
      have e2 := filesP_dec l1 fs l2 B1 h2
      simp only [h2, Option.some.injEq, Prod.mk.injEq] at h
      obtain ⟨rfl, rfl⟩ := h
      unfold snapB
      rw [List.append_assoc, ← e2]
      exact e1
theorem snapsP_enc (xs : List SnapE) (r : List Int) (h : ∀ x ∈ xs, SnapN x) (hl : xs.length < 65536) : snapsP (lstB snapB xs ++ r) = some (xs, r) := lst_enc snapP_enc xs r h hl
theorem snapsP_dec (l : List Int) (xs : List SnapE) (r : List Int) (hB : Byt l) (h : snapsP l = some (xs, r)) : l = lstB snapB xs ++ r := lst_dec snapP_dec l r xs hB h
def SetN7 (x : SetE) : Prop := x.name.size < 65536 ∧ ((∀ e ∈ x.files, EntN e) ∧ x.files.length < 65536) ∧ (∀ s ∈ x.snaps, SnapN s) ∧ x.snaps.length < 65536
theorem setP_enc (x : SetE) (r : List Int) (h : SetN7 x) : setP (setB x ++ r) = some (x, r) := by
  have e : setB x ++ r = nameB x.name ++ (filesB x.files ++ (lstB snapB x.snaps ++ r)) := by unfold setB lstB; simp only [List.append_assoc]
  rw [e]
  unfold setP
  rw [nameP_enc h.1]; simp only
  rw [filesP_enc _ _ h.2.1.1 h.2.1.2]; simp only
  rw [snapsP_enc x.snaps r h.2.2.1 h.2.2.2]
theorem setP_dec (l : List Int) (x : SetE) (r : List Int) (hB : Byt l) (h : setP l = some (x, r)) : l = setB x ++ r := by
  unfold setP at h
  cases h1 : nameP l with
  | none => simp [h1] at h
  | some p =>
    obtain ⟨s, l1⟩ := p
    obtain ⟨e1, _⟩ := nameP_dec hB h1
    simp only [h1] at h
    have B1 : Byt l1 := by rw [e1] at hB; exact hB.right
    cases h2 : filesP l1 with
    | none => simp [h2] at h
    | some p =>
      obtain ⟨fs, l2⟩ := p
      have e2 := filesP_dec l1 fs l2 B1 h2
      simp only [h2] at h
      have B2 : Byt l2 := by rw [e2] at B1; exact B1.right
      cases h3 : snapsP l2 with
      | none => rw [h3] at h; simp at h
      | some p =>
        obtain ⟨ss, l3⟩ := p
        have e3 := snapsP_dec l2 ss l3 B2 h3
        rw [h3] at h
        simp only [Option.some.injEq, Prod.mk.injEq] at h
        obtain ⟨rfl, rfl⟩ := h
        have e : setB ⟨s, fs, ss⟩ ++ l3 = nameB s ++ (filesB fs ++ (lstB snapB ss ++ l3)) := by unfold setB lstB; simp only [List.append_assoc]
        rw [e, ← e3, ← e2]
        exact e1
theorem setsP_enc (xs : List SetE) (r : List Int) (h : ∀ x ∈ xs, SetN7 x) (hl : xs.length < 65536) : setsP (lstB setB xs ++ r) = some (xs, r) := lst_enc setP_enc xs r h hl
theorem setsP_dec (l : List Int) (xs : List SetE) (r : List Int) (hB : Byt l) (h : setsP l = some (xs, r)) : l = lstB setB xs ++ r := lst_dec setP_dec l r xs hB h
def TenN (t : TenE) : Prop := N16 t.key ∧ N16 t.quota ∧ (∀ x ∈ t.sets, SetN7 x) ∧ t.sets.length < 65536
theorem tenB_eq (t : TenE) : tenB t = numB t.key ++ (numB t.quota ++ lstB setB t.sets) := by
  unfold tenB lstB
  simp only [numsB, List.flatMap_cons, List.flatMap_nil, List.append_nil, List.append_assoc]
theorem tenP_enc (t : TenE) (r : List Int) (h : TenN t) : tenP (tenB t ++ r) = some (t, r) := by
  rw [tenB_eq]
  unfold tenP
  rw [List.append_assoc, numP_enc h.1]; simp only
  rw [List.append_assoc, numP_enc h.2.1]; simp only
  rw [setsP_enc t.sets r h.2.2.1 h.2.2.2]
theorem tenP_dec (l : List Int) (t : TenE) (r : List Int) (hB : Byt l) (h : tenP l = some (t, r)) : l = tenB t ++ r := by
  unfold tenP at h
  cases h1 : numP l with
  | none => simp [h1] at h
  | some p =>
    obtain ⟨k, l1⟩ := p
    obtain ⟨e1, _⟩ := numP_dec hB h1
    simp only [h1] at h
    have B1 : Byt l1 := by rw [e1] at hB; exact hB.right
    cases h2 : numP l1 with
    | none => simp [h2] at h
    | some p =>
      obtain ⟨q, l2⟩ := p
      obtain ⟨e2, _⟩ := numP_dec B1 h2
      simp only [h2] at h
      have B2 : Byt l2 := by rw [e2] at B1; exact B1.right
      cases h3 : setsP l2 with
      | none => rw [h3] at h; simp at h
      | some p =>
        obtain ⟨ss, l3⟩ := p
        have e3 := setsP_dec l2 ss l3 B2 h3
        rw [h3] at h
        simp only [Option.some.injEq, Prod.mk.injEq] at h
        obtain ⟨rfl, rfl⟩ := h
        rw [tenB_eq, List.append_assoc, List.append_assoc, ← e3, ← e2]
        exact e1
theorem tensP_enc (xs : List TenE) (r : List Int) (h : ∀ x ∈ xs, TenN x) (hl : xs.length < 65536) : tensP (lstB tenB xs ++ r) = some (xs, r) := lst_enc tenP_enc xs r h hl
theorem tensP_dec (l : List Int) (xs : List TenE) (r : List Int) (hB : Byt l) (h : tensP l = some (xs, r)) : l = lstB tenB xs ++ r := lst_dec tenP_dec l r xs hB h
theorem kidsP_enc (xs : List Int) (r : List Int) (h : ∀ x ∈ xs, N16 x) (hl : xs.length < 65536) : kidsP (lstB numB xs ++ r) = some (xs, r) := lst_enc (ok := N16) (fun x r h => numP_enc h r) xs r h hl
theorem kidsP_dec (l : List Int) (xs : List Int) (r : List Int) (hB : Byt l) (h : kidsP l = some (xs, r)) : l = lstB numB xs ++ r := lst_dec (fun l x r hB h => (numP_dec hB h).1) l r xs hB h
def BlkN (b : Blk) : Prop := N16 b.refs ∧ N16 b.level ∧ (∀ k ∈ b.kids, N16 k) ∧ b.kids.length < 65536 ∧ b.bytes.length < 65536
theorem blkB_eq (b : Blk) : blkB b = numB b.refs ++ (numB b.level ++ (lstB numB b.kids ++ bytesB b.bytes)) := by
  unfold blkB lstB
  simp only [numsB, List.flatMap_cons, List.flatMap_nil, List.append_nil, List.append_assoc]
theorem blkP_enc (b : Blk) (r : List Int) (h : BlkN b) : blkP (blkB b ++ r) = some (b, r) := by
  rw [blkB_eq]
  unfold blkP
  rw [List.append_assoc, numP_enc h.1]; simp only
  rw [List.append_assoc, numP_enc h.2.1]; simp only
  rw [List.append_assoc, kidsP_enc b.kids _ h.2.2.1 h.2.2.2.1]; simp only
  rw [bytesP_enc h.2.2.2.2]
theorem blkP_dec (l : List Int) (b : Blk) (r : List Int) (hB : Byt l) (h : blkP l = some (b, r)) : l = blkB b ++ r := by
  unfold blkP at h
  cases h1 : numP l with
  | none => simp [h1] at h
  | some p =>
    obtain ⟨k, l1⟩ := p
    obtain ⟨e1, _⟩ := numP_dec hB h1
    simp only [h1] at h
    have B1 : Byt l1 := by rw [e1] at hB; exact hB.right
    cases h2 : numP l1 with
    | none => simp [h2] at h
    | some p =>
      obtain ⟨q, l2⟩ := p
      obtain ⟨e2, _⟩ := numP_dec B1 h2
      simp only [h2] at h
      have B2 : Byt l2 := by rw [e2] at B1; exact B1.right
      cases h3 : kidsP l2 with
      | none => rw [h3] at h; simp at h
      | some p =>
        obtain ⟨ks, l3⟩ := p
        have e3 := kidsP_dec l2 ks l3 B2 h3
        rw [h3] at h
        simp only at h
        have B3 : Byt l3 := by rw [e3] at B2; exact B2.right
        cases h4 : bytesP l3 with
        | none => simp [h4] at h
        | some p =>
          obtain ⟨bs, l4⟩ := p
          obtain ⟨e4, _⟩ := bytesP_dec B3 h4
          simp only [h4, Option.some.injEq, Prod.mk.injEq] at h
          obtain ⟨rfl, rfl⟩ := h
          rw [blkB_eq, List.append_assoc, List.append_assoc, List.append_assoc, ← e4, ← e3, ← e2]
          exact e1

theorem blksP_enc (xs : List Blk) (r : List Int) (h : ∀ x ∈ xs, BlkN x) (hl : xs.length < 65536) : blksP (lstB blkB xs ++ r) = some (xs, r) := lst_enc blkP_enc xs r h hl
theorem blksP_dec (l : List Int) (xs : List Blk) (r : List Int) (hB : Byt l) (h : blksP l = some (xs, r)) : l = lstB blkB xs ++ r := lst_dec blkP_dec l r xs hB h
/-- an image of a list of blocks and tenants -/
def imgB (bs : List Blk) (ts : List TenE) : List Int := lstB blkB bs ++ lstB tenB ts
theorem range_flat {f : Blk → List Int} (bs : List Blk) : (List.range bs.length).flatMap (fun i => f (blksOf bs i)) = bs.flatMap f := by
  induction bs with
  | nil => rfl
  | cons b bs ih =>
    rw [List.length_cons, List.range_succ_eq_map, List.flatMap_cons, List.flatMap_cons, List.flatMap_map]
    simp only [blksOf, List.getD_cons_zero, List.getD_cons_succ] at ih ⊢
    rw [ih]
theorem poolB_of (bs : List Blk) (ts : List TenE) : poolB bs.length (blksOf bs) ts = imgB bs ts := by
  unfold poolB imgB lstB blocksB
  rw [range_flat (f := blkB)]
  simp only [List.append_assoc]
theorem poolP_enc (bs : List Blk) (ts : List TenE) (r : List Int) (h : (∀ b ∈ bs, BlkN b) ∧ bs.length < 65536) (k : (∀ t ∈ ts, TenN t) ∧ ts.length < 65536) : poolP (imgB bs ts ++ r) = some ((bs, ts), r) := by
  unfold poolP imgB
  rw [List.append_assoc, blksP_enc bs _ h.1 h.2]; simp only
  rw [tensP_enc ts _ k.1 k.2]
theorem poolP_dec {l r : List Int} {bs : List Blk} {ts : List TenE} (hB : Byt l) (h : poolP l = some ((bs, ts), r)) : l = imgB bs ts ++ r := by
  unfold poolP at h
  cases h1 : blksP l with
  | none => rw [h1] at h; simp at h
  | some p =>
    obtain ⟨xs, l1⟩ := p
    have e1 := blksP_dec l xs l1 hB h1
    rw [h1] at h
    simp only at h
    have B1 : Byt l1 := by rw [e1] at hB; exact hB.right
    cases h2 : tensP l1 with
    | none => rw [h2] at h; simp at h
    | some p =>
      obtain ⟨ys, l2⟩ := p
      have e2 := tensP_dec l1 ys l2 B1 h2
      rw [h2] at h
      simp only [Option.some.injEq, Prod.mk.injEq] at h
      obtain ⟨⟨rfl, rfl⟩, rfl⟩ := h
      unfold imgB
      rw [List.append_assoc, ← e2]
      exact e1

theorem sumTo_leC {f : Nat → Nat} {c : Nat} : ∀ {n : Nat}, (∀ i, i < n → f i ≤ c) → sumTo f n ≤ n * c
  | 0, _ => by simp [sumTo]
  | n + 1, h => by
    have h1 := h n (by omega)
    have h2 := sumTo_leC (f := f) (n := n) (fun i hi => h i (by omega))
    simp only [sumTo, Nat.add_mul, Nat.one_mul]
    omega
theorem PoolOk.refs {n : Nat} {B : Nat → Blk} {l : List TenE} (h : PoolOk n B l) {k : Nat} (hk : k < n) : (B k).refs ≤ 2000 := by
  have h1 := h.held k hk
  have h2 := rootsP_len h.tens
  have h3 := h.few
  have h4 := h.right.small
  have h5 := List.count_le_length (a := (k : Int) + 1) (l := rootsP l)
  have h6 : among n B ((k : Int) + 1) ≤ n * 4 := sumTo_leC (fun i hi => Nat.le_trans List.count_le_length (form_few (h.right.one i hi)).1)
  unfold outs at h1
  omega
theorem PoolOk.blkN {n : Nat} {B : Nat → Blk} {l : List TenE} (h : PoolOk n B l) {k : Nat} (hk : k < n) : BlkN (B k) := by
  have h1 := h.refs hk
  have h2 := (h.right.one k hk).bounds
  have h3 := form_few (h.right.one k hk)
  have h4 := h.right.small
  refine ⟨by unfold N16; omega, by unfold N16; omega, fun x hx => ?_, by omega, by omega⟩
  rcases (h.right.one k hk).kids x hx with h5 | ⟨h5, _⟩
  · subst h5; unfold N16; omega
  · have := h5.1; have := h5.2.1; unfold N16; omega
theorem FileOk.entN {n : Nat} {B : Nat → Blk} {key : Int} {e : Ent} (h : FileOk n B key e.root e.size) (hn : IsName e.name) : EntN e := by
  have h1 := name_size hn
  have h2 := h.sb
  have h3 := h.rootBd
  have h4 := h.right.small
  exact ⟨by omega, by unfold N16; omega, by unfold N16; omega⟩
theorem SetOk.setN {n : Nat} {B : Nat → Blk} {key : Int} {x : SetE} (h : SetOk n B key x) : SetN7 x := by
  have h1 := name_size h.name
  have h2 := h.files.few
  have h3 := h.fewS
  refine ⟨by omega, ⟨fun e he => (h.files.files e he).entN (h.files.names e he), by omega⟩, fun s hs => ?_, by omega⟩
  have h4 := name_size (h.namesS s hs)
  have h5 := (h.filesS s hs).few
  exact ⟨by omega, fun e he => ((h.filesS s hs).files e he).entN ((h.filesS s hs).names e he), by omega⟩
theorem TenOk.tenN {n : Nat} {B : Nat → Blk} {t : TenE} (h : TenOk n B t) : TenN t := by
  have h1 := h.kb
  have h2 := h.qb
  have h3 := h.few
  exact ⟨by unfold N16; omega, by unfold N16; omega, fun x hx => (h.sets x hx).setN, by omega⟩
theorem PoolOk.parse {bs : List Blk} {ts : List TenE} (h : PoolOk bs.length (blksOf bs) ts) (r : List Int) : poolP (imgB bs ts ++ r) = some ((bs, ts), r) := by
  have h1 := h.right.small
  have h2 := h.few
  refine poolP_enc bs ts r ⟨fun b hb => ?_, by omega⟩ ⟨fun t ht => (h.tens t ht).tenN, by omega⟩
  obtain ⟨i, hi, rfl⟩ := List.getElem_of_mem hb
  have := h.blkN hi
  have e : blksOf bs i = bs[i] := by simp [blksOf, List.getD, hi]
  rwa [e] at this
end Go.Proofs.YtihkljfcplfldaaGreat
