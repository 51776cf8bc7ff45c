/-
  DskA, DskB in one text. Nothing here is trusted.
-/
import Derived.Test.YtihkljfcplfldaaGreatPart33
set_option linter.unusedVariables false
namespace Go.Proofs.YtihkljfcplfldaaGreat
open Go.RowKit

/-- the number that stands in bytes -/
def numF (l : List Int) : Int := l.foldl (fun n x => n * 256 + x) 0
theorem numF_snoc (l : List Int) (x : Int) : numF (l ++ [x]) = numF l * 256 + x := by simp [numF, List.foldl_append]
/-- one byte more in the sum -/
def sumS (s : Int × Int) (b : Int) : Int × Int := ((s.1 + b) % 65521, (s.2 + (s.1 + b) % 65521) % 65521)
def sumXY (l : List Int) : Int × Int := l.foldl sumS (1, 0)
theorem sumXY_snoc (l : List Int) (x : Int) : sumXY (l ++ [x]) = sumS (sumXY l) x := by simp [sumXY, List.foldl_append]
theorem sumS_bd (s : Int × Int) (b : Int) : (0 ≤ (sumS s b).1 ∧ (sumS s b).1 < 65521) ∧ (0 ≤ (sumS s b).2 ∧ (sumS s b).2 < 65521) := by
  unfold sumS
  simp only
  omega
theorem fold_bd : ∀ (l : List Int) (s : Int × Int), ((0 ≤ s.1 ∧ s.1 < 65521) ∧ (0 ≤ s.2 ∧ s.2 < 65521)) → ((0 ≤ (l.foldl sumS s).1 ∧ (l.foldl sumS s).1 < 65521) ∧ (0 ≤ (l.foldl sumS s).2 ∧ (l.foldl sumS s).2 < 65521))
  | [], s, h => h
  | b :: l, s, _ => fold_bd l _ (sumS_bd s b)
theorem sumXY_bd (l : List Int) : (0 ≤ (sumXY l).1 ∧ (sumXY l).1 < 65521) ∧ (0 ≤ (sumXY l).2 ∧ (sumXY l).2 < 65521) := fold_bd l (1, 0) (by decide)
theorem xor_bd {x y : Int} (hx : 0 ≤ x ∧ x < 65521) (hy : 0 ≤ y ∧ y < 65521) : 0 ≤ bits .xor .u32 x y ∧ bits .xor .u32 x y < 65536 := by
  obtain ⟨a, rfl⟩ := Int.eq_ofNat_of_zero_le hx.1
  obtain ⟨b, rfl⟩ := Int.eq_ofNat_of_zero_le hy.1
  have ha : a < 2 ^ 16 := by omega
  have hb : b < 2 ^ 16 := by omega
  have hx := Nat.xor_lt_two_pow ha hb
  have e : bits .xor .u32 (a : Int) (b : Int) = ((a ^^^ b : Nat) : Int) := by
    have h1 : (BitVec.ofInt 32 (a : Int)).toNat = a := by
      rw [BitVec.ofInt_natCast, BitVec.toNat_ofNat]; exact Nat.mod_eq_of_lt (by omega)
    have h2 : (BitVec.ofInt 32 (b : Int)).toNat = b := by
      rw [BitVec.ofInt_natCast, BitVec.toNat_ofNat]; exact Nat.mod_eq_of_lt (by omega)
    show IntKind.u32.wrap ((BitVec.ofInt 32 (a : Int) ^^^ BitVec.ofInt 32 (b : Int)).toNat : Int) = _
    rw [BitVec.toNat_xor, h1, h2, IntKind.wrap_u32]
    omega
  rw [e]
  omega
/-- the sum of a slot -/
def sumL (l : List Int) : Int := bits .xor .u32 (sumXY (l.take 7 ++ l.drop 9)).1 (sumXY (l.take 7 ++ l.drop 9)).2
theorem sumL_bd (l : List Int) : 0 ≤ sumL l ∧ sumL l < 65536 := xor_bd (sumXY_bd _).1 (sumXY_bd _).2

/-- a whole slot: its number, its pool -/
def Whole (l : List Int) (k : Int) (bs : List Blk) (ts : List TenE) : Prop :=
  9 ≤ l.length ∧ ∃ L : Nat, numF ((l.drop 4).take 3) = (L : Int) ∧ L + 9 ≤ l.length ∧ numF ((l.drop 7).take 2) = sumL (l.take (9 + L)) ∧ k = numF (l.take 4) ∧ L ≤ 20000 ∧ poolP ((l.drop 9).take L) = some ((bs, ts), []) ∧ OkL bs ts
theorem Whole.one {l : List Int} {k k' : Int} {bs bs' : List Blk} {ts ts' : List TenE} (h : Whole l k bs ts) (h' : Whole l k' bs' ts') : k = k' ∧ bs = bs' ∧ ts = ts' := by
  obtain ⟨_, L, a1, _, _, a4, _, a6, _⟩ := h
  obtain ⟨_, M, b1, _, _, b4, _, b6, _⟩ := h'
  have : L = M := by rw [a1] at b1; omega
  subst this
  rw [a6] at b6
  simp only [Option.some.injEq, Prod.mk.injEq, and_true] at b6
  exact ⟨a4.trans b4.symm, b6.1, b6.2⟩

/-- the bytes ahead of the image -/
def headB (k : Int) (L : Int) : List Int := [k / 16777216 % 256, k / 65536 % 256, k / 256 % 256, k % 256, L / 65536 % 256, L / 256 % 256, L % 256]
def sumB (s : Int) : List Int := [s / 256 % 256, s % 256]
def slotB (k : Int) (img : List Int) : List Int := headB k (img.length : Int) ++ (sumB (sumL (headB k (img.length : Int) ++ ([0, 0] ++ img))) ++ img)
theorem headB_len (k L : Int) : (headB k L).length = 7 := rfl
theorem sumB_len (s : Int) : (sumB s).length = 2 := rfl
theorem slotB_len (k : Int) (img : List Int) : (slotB k img).length = 9 + img.length := by
  unfold slotB
  rw [List.length_append, List.length_append, headB_len, sumB_len]
  omega
theorem byt_slotB {k : Int} {img : List Int} (h : Byt img) : Byt (slotB k img) := by
  unfold slotB
  refine Byt.append (fun x hx => ?_) (Byt.append (fun x hx => ?_) h)
  · simp only [headB, List.mem_cons, List.not_mem_nil, or_false] at hx
    rcases hx with rfl | rfl | rfl | rfl | rfl | rfl | rfl <;> omega
  · simp only [sumB, List.mem_cons, List.not_mem_nil, or_false] at hx
    rcases hx with rfl | rfl <;> omega
/-- the sum passes over its own place -/
theorem sumL_any (h : List Int) (hh : h.length = 7) (x y x' y' : Int) (r : List Int) : sumL (h ++ ([x, y] ++ r)) = sumL (h ++ ([x', y'] ++ r)) := by
  have e : ∀ x y : Int, (h ++ ([x, y] ++ r)).take 7 ++ (h ++ ([x, y] ++ r)).drop 9 = h ++ r := fun x y => by
    rw [← hh, List.take_left, show (9 : Nat) = 7 + 2 from rfl, ← hh, ← List.drop_drop, List.drop_left]
    rfl
  unfold sumL
  rw [e, e]
theorem whole_slot {k : Int} {bs : List Blk} {ts : List TenE} (hk : 0 ≤ k ∧ k < 4294967296) (h : OkL bs ts) (hL : (imgB bs ts).length ≤ 20000) : Whole (slotB k (imgB bs ts)) k bs ts := by
  have hp := PoolOk.parse h []
  rw [List.append_nil] at hp
  generalize imgB bs ts = img at *
  have hs := sumL_bd (headB k (img.length : Int) ++ ([0, 0] ++ img))
  have hlen := slotB_len k img
  refine ⟨by omega, img.length, ?_, by omega, ?_, ?_, hL, ?_, h⟩
  · show numF [(img.length : Int) / 65536 % 256, (img.length : Int) / 256 % 256, (img.length : Int) % 256] = _
    simp only [numF, List.foldl_cons, List.foldl_nil]
    omega
  · have et : (slotB k img).take (9 + img.length) = slotB k img := List.take_of_length_le (by omega)
    rw [et]
    unfold slotB
    generalize hse : sumL (headB k (img.length : Int) ++ ([0, 0] ++ img)) = s at *
    rw [show sumL (headB k (img.length : Int) ++ (sumB s ++ img)) = s from (sumL_any _ (headB_len _ _) (s / 256 % 256) (s % 256) 0 0 img).trans hse]
    show numF [s / 256 % 256, s % 256] = s
    simp only [numF, List.foldl_cons, List.foldl_nil]
    omega
  · show k = numF [k / 16777216 % 256, k / 65536 % 256, k / 256 % 256, k % 256]
    simp only [numF, List.foldl_cons, List.foldl_nil]
    omega
  · show poolP (img.take img.length) = _
    rw [List.take_length]
    exact hp
/-- a slot that was torn is not whole -/
theorem torn_slot {k : Int} {img : List Int} (hL : img.length ≤ 20000) {m : Nat} (hm : m < 9 + img.length) (k' : Int) (bs : List Blk) (ts : List TenE) : ¬ Whole ((slotB k img).take m) k' bs ts := by
  rintro ⟨h9, L, h1, h2, _⟩
  have hlen := slotB_len k img
  rw [List.length_take] at h9 h2
  have e : ((slotB k img).take m).drop 4 = ((slotB k img).drop 4).take (m - 4) := List.drop_take
  rw [e, List.take_take, show min 3 (m - 4) = 3 by omega] at h1
  have e2 : ((slotB k img).drop 4).take 3 = [(img.length : Int) / 65536 % 256, (img.length : Int) / 256 % 256, (img.length : Int) % 256] := rfl
  rw [e2] at h1
  simp only [numF, List.foldl_cons, List.foldl_nil] at h1
  omega
theorem whole_nil (k : Int) (bs : List Blk) (ts : List TenE) : ¬ Whole [] k bs ts := fun h => by have := h.1; simp at this

/-- which slot is the newest one: 1 (A), 2 (B), or 0: none is whole -/
def Newest (A B : List Int) (wh k : Int) (bs : List Blk) (ts : List TenE) : Prop :=
  (wh = 1 ∧ Whole A k bs ts ∧ ∀ k' bs' ts', Whole B k' bs' ts' → k' ≤ k) ∨ (wh = 2 ∧ Whole B k bs ts ∧ ∀ k' bs' ts', Whole A k' bs' ts' → k' < k) ∨ (wh = 0 ∧ k = 0 ∧ (∀ k' bs' ts', ¬ Whole A k' bs' ts') ∧ ∀ k' bs' ts', ¬ Whole B k' bs' ts')
theorem Newest.one {A B : List Int} {wh wh' k k' : Int} {bs bs' : List Blk} {ts ts' : List TenE} (h : Newest A B wh k bs ts) (h' : Newest A B wh' k' bs' ts') : wh = wh' ∧ k = k' ∧ (wh ≠ 0 → bs = bs' ∧ ts = ts') := by
  rcases h with ⟨rfl, h1, h2⟩ | ⟨rfl, h1, h2⟩ | ⟨rfl, rfl, h1, h2⟩ <;> rcases h' with ⟨rfl, g1, g2⟩ | ⟨rfl, g1, g2⟩ | ⟨rfl, rfl, g1, g2⟩
  · obtain ⟨e1, e2, e3⟩ := h1.one g1
    exact ⟨rfl, e1, fun _ => ⟨e2, e3⟩⟩
  · have := h2 _ _ _ g1
    have := g2 _ _ _ h1
    omega
  · exact absurd h1 (g1 _ _ _)
  · have := g2 _ _ _ h1
    have := h2 _ _ _ g1
    omega
  · obtain ⟨e1, e2, e3⟩ := h1.one g1
    exact ⟨rfl, e1, fun _ => ⟨e2, e3⟩⟩
  · exact absurd h1 (g2 _ _ _)
  · exact absurd g1 (h1 _ _ _)
  · exact absurd g1 (h2 _ _ _)
  · exact ⟨rfl, rfl, fun h => absurd rfl h⟩
/-- what a commit of the number k + 1 leaves: the slot that is spared is S -/
def nextA (A : List Int) (wh : Int) (S : List Int) : List Int := if wh = 1 then A else S
def nextB (B : List Int) (wh : Int) (S : List Int) : List Int := if wh = 1 then S else B
/-- a whole slot in the spared place is the newest one -/
theorem newest_next {A B S : List Int} {wh k : Int} {bs bs' : List Blk} {ts ts' : List TenE} (h : Newest A B wh k bs ts) (hS : Whole S (k + 1) bs' ts') : Newest (nextA A wh S) (nextB B wh S) (if wh = 1 then 2 else 1) (k + 1) bs' ts' := by
  unfold nextA nextB
  rcases h with ⟨rfl, h1, h2⟩ | ⟨rfl, h1, h2⟩ | ⟨rfl, rfl, h1, h2⟩
  · refine .inr (.inl ⟨by decide, by simpa using hS, fun k' bs' ts' h => ?_⟩)
    rw [if_pos rfl] at h
    have := (h.one h1).1
    omega
  · refine .inl ⟨by decide, by simpa using hS, fun k' bs' ts' h => ?_⟩
    rw [if_neg (by decide)] at h
    have := (h.one h1).1
    omega
  · refine .inl ⟨by decide, by simpa using hS, fun k' bs' ts' h => ?_⟩
    rw [if_neg (by decide)] at h
    exact absurd h (h2 _ _ _)
/-- a slot that isn't whole there: what was newest is it still -/
theorem newest_torn {A B S : List Int} {wh k : Int} {bs : List Blk} {ts : List TenE} (h : Newest A B wh k bs ts) (hS : ∀ k' bs' ts', ¬ Whole S k' bs' ts') : Newest (nextA A wh S) (nextB B wh S) wh k bs ts := by
  unfold nextA nextB
  rcases h with ⟨rfl, h1, h2⟩ | ⟨rfl, h1, h2⟩ | ⟨rfl, rfl, h1, h2⟩
  · exact .inl ⟨rfl, by simpa using h1, fun k' bs' ts' h => absurd (by simpa using h) (hS k' bs' ts')⟩
  · exact .inr (.inl ⟨rfl, by simpa using h1, fun k' bs' ts' h => absurd (by simpa using h) (hS k' bs' ts')⟩)
  · exact .inr (.inr ⟨rfl, rfl, fun k' bs' ts' h => hS k' bs' ts' (by simpa using h), fun k' bs' ts' h => h2 k' bs' ts' (by simpa using h)⟩)
theorem newest_nil : Newest [] [] 0 0 [] [] := .inr (.inr ⟨rfl, rfl, whole_nil, whole_nil⟩)
theorem Whole.num {l : List Int} {k : Int} {bs : List Blk} {ts : List TenE} (hB : Byt l) (h : Whole l k bs ts) : 0 ≤ k ∧ k < 4294967296 := by
  obtain ⟨h9, _, _, _, _, rfl, _⟩ := h
  match l, h9 with
  | a :: b :: c :: d :: r, _ =>
    have ha := hB a (by simp)
    have hb := hB b (by simp)
    have hc := hB c (by simp)
    have hd := hB d (by simp)
    show 0 ≤ numF [a, b, c, d] ∧ numF [a, b, c, d] < 4294967296
    simp only [numF, List.foldl_cons, List.foldl_nil]
    omega
end Go.Proofs.YtihkljfcplfldaaGreat

namespace Go.Proofs.YtihkljfcplfldaaGreat
open Go.RowKit

theorem take_nextD {l : List Int} {j : Nat} (h : j < l.length) : l.take (j + 1) = l.take j ++ [l.getD j 0] := by
  rw [List.take_succ_eq_append_getElem h]
  simp [List.getD, h]

theorem numF_bd : ∀ (j : Nat) (l : List Int), (∀ x ∈ l, 0 ≤ x ∧ x < 256) → j ≤ l.length → j ≤ 4 → 0 ≤ numF (l.take j) ∧ (j ≤ 3 → numF (l.take j) < 16777216) ∧ numF (l.take j) < 4294967296 := by
  intro j l hB hj h4
  rcases (by omega : j = 0 ∨ j = 1 ∨ j = 2 ∨ j = 3 ∨ j = 4) with rfl | rfl | rfl | rfl | rfl
  · simp [numF]
  · match l, hj with
    | a :: r, _ =>
      have ha := hB a (by simp)
      simp [numF]; omega
  · match l, hj with
    | a :: b :: r, _ =>
      have ha := hB a (by simp)
      have hb := hB b (by simp)
      simp [numF]; omega
  · match l, hj with
    | a :: b :: c :: r, _ =>
      have ha := hB a (by simp)
      have hb := hB b (by simp)
      have hc := hB c (by simp)
      simp [numF]; omega
  · match l, hj with
    | a :: b :: c :: d :: r, _ =>
      have ha := hB a (by simp)
      have hb := hB b (by simp)
      have hc := hB c (by simp)
      have hd := hB d (by simp)
      simp [numF]; omega

set_option maxHeartbeats 400000 in
theorem dnum_any (Q : Nat → Prop) (a : Option Addr) (n c : Nat) (l : List Int) (w : World) (hN : NumsAt Q .u8 w a n l) (h4 : n ≤ 4) :
    Calls Tryz.prog 89 #[.slice a n c] w fun e w' => e = .returned (.int .u32 (numF l)) ∧ w' = w := by
  have hll := hid hN.1
  have hB : Hid (∀ x ∈ l, 0 ≤ x ∧ x < 256) := hid (fun z hz => by have := bounds_u8 (hN.2.1 z hz); omega)
  replace hN := hid hN
  go_enter Tryz.func89, Tryz.ntmps89
  go_wp2_with fail
  go_loopw [3, 8] (fun u v wr => ∃ j : Nat, j ≤ n ∧ u = .int .u32 (numF (l.take j)) ∧ v = .int .i64 j ∧ wr = w) (fun _ v _ => n - (Go.RowKit.intOf v).toNat)
  case atStart => exact ⟨0, Nat.zero_le _, by simp [numF], rfl, rfl⟩
  case round =>
    obtain ⟨j, hj, rfl, rfl, rfl⟩ := hrel
    by_cases hlt : j < n
    · have hjl : j < l.length := by rw [hll.out]; exact hlt
      obtain ⟨kb, ko, rfl, hkb, hkq, hcc⟩ := hN.out.2.2 (by omega)
      have hck := hcc j hlt
      have hbd := numF_bd j l hB.out (by omega) (by omega)
      have hb0 := hbd.1
      have hb1 := hbd.2.1 (by omega)
      have hx : l.getD j 0 ∈ l := by
        have e : l.getD j 0 = l[j] := by simp [List.getD, hjl]
        rw [e]; exact List.getElem_mem hjl
      have hxb := hB.out _ hx
      have hnext : Hid (numF (l.take (j + 1)) = numF (l.take j) * 256 + l.getD j 0) := hid (by rw [take_nextD hjl, numF_snoc])
      clear hcc hx hbd
      generalize l.getD j 0 = x at *
      generalize numF (l.take j) = y at *
      have hor : bits .or .u32 (y * 256) x = y * 256 + x := bits_join .u32 32 (by decide) (fun n h0 h1 => by rw [IntKind.wrap_u32]; omega) 8 (y * 256) x (by omega) (by omega) (by omega) hxb.1 (by omega) (by omega)
      go_wp2_with fail
      go_roundw
      case rel => exact ⟨j + 1, by omega, by rw [hnext.out], by go_num, by trivial⟩
      case measure => simp [Go.RowKit.intOf]; omega
    · obtain rfl : j = n := by omega
      have e1 : l.take j = l := List.take_of_length_le (by rw [hll.out]; exact Nat.le_refl _)
      rw [e1]
      go_wp2_with fail
      go_ret
      exact ⟨rfl, rfl⟩

/-- the parts that are summed, in their order -/
def partsL (l : List Int) : Nat → List Int
  | 0 => []
  | 1 => l.take 7
  | _ => l.take 7 ++ l.drop 9

set_option maxHeartbeats 1000000 in
set_option maxRecDepth 100000 in
theorem sum_a (Q : Nat → Prop) (a : Option Addr) (n c : Nat) (l : List Int) (w : World) (hN : NumsAt Q .u8 w a n l) (h9 : 9 ≤ n) (hcap : n ≤ c) (hbig : c ≤ maxLen) (hc9 : c ≠ 9) :
    Calls Tryz.prog 88 #[.slice a n c] w fun e w' => e = .returned (.int .u32 (sumL l)) ∧ Below w.heap.size w w' := by
  have hB : Hid (∀ x ∈ l, 0 ≤ x ∧ x < 256) := hid (fun z hz => by have := bounds_u8 (hN.2.1 z hz); omega)
  obtain ⟨xb, xo, rfl, _⟩ := hN.2.2 (by omega)
  have hN1 := nums_take hN (n := 7) (by omega)
  have hN2 := nums_drop hN (n := 9) (by omega)
  rw [show (⟨xb, xo, none⟩ : Addr).add 9 = ⟨xb, xo + 9, none⟩ by simp [Addr.add]] at hN2
  have hbig2 : (c : Int) ≤ 9223372036854775807 := by unfold maxLen at hbig; omega
  have hn9 : (9 : Int) ≤ (n : Int) := by omega
  have hnc : (n : Int) ≤ (c : Int) := by omega
  replace hN1 := hid hN1
  replace hN2 := hid hN2
  replace hbig := hid hbig
  clear hN
  have i0 : ∀ (w : World) (a b : Option Addr) (n m c d : Nat), (Instr.index 188 (.agg #[.slice a n c, .slice b m d]) (.int .i64 0)).run Tryz.prog w = .ok (.slice a n c) w := fun _ _ _ _ _ _ _ => by kernel_rfl
  have i1 : ∀ (w : World) (a b : Option Addr) (n m c d : Nat), (Instr.index 188 (.agg #[.slice a n c, .slice b m d]) (.int .i64 1)).run Tryz.prog w = .ok (.slice b m d) w := fun _ _ _ _ _ _ _ => by kernel_rfl
  go_enter Tryz.func88, Tryz.ntmps88
  go_upto_region 2 with fail
  go_region
  go_wp2_with fail
  go_loopw [3, 4, 14] (fun u v t wr => ∃ j : Nat, j ≤ 2 ∧ u = .int .u32 (sumXY (partsL l j)).1 ∧ v = .int .u32 (sumXY (partsL l j)).2 ∧ t = .int .i64 j ∧ Below w.heap.size w wr) (fun _ _ t _ => 2 - (Go.RowKit.intOf t).toNat)
  case atStart => exact ⟨0, Nat.zero_le _, rfl, rfl, rfl, below_drewN _ _ _⟩
  case round =>
    obtain ⟨j, hj, rfl, rfl, rfl, hb⟩ := hrel
    have hbd := sumXY_bd (partsL l j)
    rcases (by omega : j = 0 ∨ j = 1 ∨ j = 2) with rfl | rfl | rfl
    · go_wp2_with fail
      go_loopw [3, 4, 19] (fun u v t wi => ∃ i : Nat, i ≤ 7 ∧ u = .int .u32 (sumXY (partsL l 0 ++ (l.take 7).take i)).1 ∧ v = .int .u32 (sumXY (partsL l 0 ++ (l.take 7).take i)).2 ∧ t = .int .i64 i ∧ Below w.heap.size w wi) (fun _ _ t _ => 7 - (Go.RowKit.intOf t).toNat)
      case atStart => exact ⟨0, Nat.zero_le _, by simp, by simp, rfl, hb⟩
      case round =>
        clear hb
        obtain ⟨i, hi, rfl, rfl, rfl, hb⟩ := hrel
        have hpl := hN1.out.1
        by_cases hlt : i < 7
        · have hil : i < (l.take 7).length := by rw [hpl]; exact hlt
          obtain ⟨kb, ko, hka, hkb, hkq, hcc⟩ := hN1.out.2.2 (by omega)
          simp only [Option.some.injEq, Addr.mk.injEq, and_true] at hka; obtain ⟨rfl, rfl⟩ := hka
          have hck := (hb.cell (p := ⟨xb, xo + i, none⟩) hkb).trans (hcc i hlt)
          have hx : (l.take 7).getD i 0 ∈ l.take 7 := getD_mem hil
          have hxb := hB.out _ (List.mem_of_mem_take hx)
          have hnext : Hid (sumXY (partsL l 0 ++ (l.take 7).take (i + 1)) = sumS (sumXY (partsL l 0 ++ (l.take 7).take i)) ((l.take 7).getD i 0)) := hid (by rw [take_nextD hil, ← List.append_assoc, sumXY_snoc])
          have hq := sumXY_bd (partsL l 0 ++ (l.take 7).take i)
          have hi64 : (i : Int) < 9223372036854775807 := by omega
          unfold sumS at hnext
          have hltI : (i : Int) < 7 := by omega
          replace hlt := hid hlt
          replace hi := hid hi
          clear hcc hx hbd hpl hil
          generalize (l.take 7).getD i 0 = x at *
          generalize sumXY (partsL l 0 ++ (l.take 7).take i) = y at *
          obtain ⟨y1, y2⟩ := y
          simp only at hq hnext
          replace hb := hid hb
          go_wp2_with fail
          go_roundw
          case rel => exact ⟨i + 1, hlt.out, by rw [hnext.out], by rw [hnext.out], by go_num, hb.out⟩
          case measure => have := hlt.out; simp [Go.RowKit.intOf]; omega
        · obtain rfl : i = 7 := by omega
          have e1 : (l.take 7).take (7) = l.take 7 := List.take_of_length_le (by rw [hpl]; exact Nat.le_refl _)
          rw [e1]
          replace hb := hid hb
          clear hpl
          go_wp2_with fail
          go_roundw
          case rel => exact ⟨0 + 1, by omega, rfl, rfl, rfl, hb.out⟩
          case measure => simp [Go.RowKit.intOf]
    · go_wp2_with fail
      go_loopw [3, 4, 19] (fun u v t wi => ∃ i : Nat, i ≤ n - 9 ∧ u = .int .u32 (sumXY (partsL l 1 ++ (l.drop 9).take i)).1 ∧ v = .int .u32 (sumXY (partsL l 1 ++ (l.drop 9).take i)).2 ∧ t = .int .i64 i ∧ Below w.heap.size w wi) (fun _ _ t _ => n - 9 - (Go.RowKit.intOf t).toNat)
      case atStart => exact ⟨0, Nat.zero_le _, by simp, by simp, rfl, hb⟩
      case round =>
        clear hb
        obtain ⟨i, hi, rfl, rfl, rfl, hb⟩ := hrel
        have hpl := hN2.out.1
        by_cases hlt : i < n - 9
        · have hil : i < (l.drop 9).length := by rw [hpl]; exact hlt
          obtain ⟨kb, ko, hka, hkb, hkq, hcc⟩ := hN2.out.2.2 (by omega)
          simp only [Option.some.injEq, Addr.mk.injEq, and_true] at hka; obtain ⟨rfl, rfl⟩ := hka
          have hck := (hb.cell (p := ⟨xb, xo + 9 + i, none⟩) hkb).trans (hcc i hlt)
          have hx : (l.drop 9).getD i 0 ∈ l.drop 9 := getD_mem hil
          have hxb := hB.out _ (List.mem_of_mem_drop hx)
          have hnext : Hid (sumXY (partsL l 1 ++ (l.drop 9).take (i + 1)) = sumS (sumXY (partsL l 1 ++ (l.drop 9).take i)) ((l.drop 9).getD i 0)) := hid (by rw [take_nextD hil, ← List.append_assoc, sumXY_snoc])
          have hq := sumXY_bd (partsL l 1 ++ (l.drop 9).take i)
          have hi64 : (i : Int) < 9223372036854775807 := by omega
          unfold sumS at hnext
          clear hcc hx hbd hpl hil
          generalize (l.drop 9).getD i 0 = x at *
          generalize sumXY (partsL l 1 ++ (l.drop 9).take i) = y at *
          obtain ⟨y1, y2⟩ := y
          simp only at hq hnext
          replace hb := hid hb
          go_wp2_with fail
          go_roundw
          case rel => exact ⟨i + 1, by omega, by rw [hnext.out], by rw [hnext.out], by go_num, hb.out⟩
          case measure => simp [Go.RowKit.intOf]; omega
        · obtain rfl : i = n - 9 := by omega
          have e1 : (l.drop 9).take (n - 9) = l.drop 9 := List.take_of_length_le (by rw [hpl]; exact Nat.le_refl _)
          rw [e1]
          replace hb := hid hb
          clear hpl
          go_wp2_with fail
          go_roundw
          case rel => exact ⟨1 + 1, by omega, rfl, rfl, rfl, hb.out⟩
          case measure => simp [Go.RowKit.intOf]
    · replace hb := hid hb
      go_wp2_with fail
      go_ret
      exact ⟨rfl, hb.out⟩
set_option maxHeartbeats 1000000 in
set_option maxRecDepth 100000 in
theorem sum_b (Q : Nat → Prop) (a : Option Addr) (n c : Nat) (l : List Int) (w : World) (hN : NumsAt Q .u8 w a n l) (h9 : 9 ≤ n) (hcap : n ≤ c) (hbig : c ≤ maxLen) (hc9 : c = 9) :
    Calls Tryz.prog 88 #[.slice a n c] w fun e w' => e = .returned (.int .u32 (sumL l)) ∧ Below w.heap.size w w' := by
  have hB : Hid (∀ x ∈ l, 0 ≤ x ∧ x < 256) := hid (fun z hz => by have := bounds_u8 (hN.2.1 z hz); omega)
  obtain ⟨xb, xo, rfl, _⟩ := hN.2.2 (by omega)
  have hN1 := nums_take hN (n := 7) (by omega)
  obtain rfl := hc9
  obtain rfl : n = 9 := by omega
  have hN2 : NumsAt Q .u8 w (some ⟨xb, xo, none⟩) 0 (l.drop 9) := by rw [List.drop_eq_nil_of_le (by rw [hN.1]; exact Nat.le_refl _)]; exact numsAt_nil _ _ _ _
  replace hN1 := hid hN1
  replace hN2 := hid hN2
  replace hbig := hid hbig
  clear hN
  have i0 : ∀ (w : World) (a b : Option Addr) (n m c d : Nat), (Instr.index 188 (.agg #[.slice a n c, .slice b m d]) (.int .i64 0)).run Tryz.prog w = .ok (.slice a n c) w := fun _ _ _ _ _ _ _ => by kernel_rfl
  have i1 : ∀ (w : World) (a b : Option Addr) (n m c d : Nat), (Instr.index 188 (.agg #[.slice a n c, .slice b m d]) (.int .i64 1)).run Tryz.prog w = .ok (.slice b m d) w := fun _ _ _ _ _ _ _ => by kernel_rfl
  go_enter Tryz.func88, Tryz.ntmps88
  go_upto_region 2 with fail
  go_region
  go_wp2_with fail
  go_loopw [3, 4, 14] (fun u v t wr => ∃ j : Nat, j ≤ 2 ∧ u = .int .u32 (sumXY (partsL l j)).1 ∧ v = .int .u32 (sumXY (partsL l j)).2 ∧ t = .int .i64 j ∧ Below w.heap.size w wr) (fun _ _ t _ => 2 - (Go.RowKit.intOf t).toNat)
  case atStart => exact ⟨0, Nat.zero_le _, rfl, rfl, rfl, below_drewN _ _ _⟩
  case round =>
    obtain ⟨j, hj, rfl, rfl, rfl, hb⟩ := hrel
    have hbd := sumXY_bd (partsL l j)
    rcases (by omega : j = 0 ∨ j = 1 ∨ j = 2) with rfl | rfl | rfl
    · go_wp2_with fail
      go_loopw [3, 4, 19] (fun u v t wi => ∃ i : Nat, i ≤ 7 ∧ u = .int .u32 (sumXY (partsL l 0 ++ (l.take 7).take i)).1 ∧ v = .int .u32 (sumXY (partsL l 0 ++ (l.take 7).take i)).2 ∧ t = .int .i64 i ∧ Below w.heap.size w wi) (fun _ _ t _ => 7 - (Go.RowKit.intOf t).toNat)
      case atStart => exact ⟨0, Nat.zero_le _, by simp, by simp, rfl, hb⟩
      case round =>
        clear hb
        obtain ⟨i, hi, rfl, rfl, rfl, hb⟩ := hrel
        have hpl := hN1.out.1
        by_cases hlt : i < 7
        · have hil : i < (l.take 7).length := by rw [hpl]; exact hlt
          obtain ⟨kb, ko, hka, hkb, hkq, hcc⟩ := hN1.out.2.2 (by omega)
          simp only [Option.some.injEq, Addr.mk.injEq, and_true] at hka; obtain ⟨rfl, rfl⟩ := hka
          have hck := (hb.cell (p := ⟨xb, xo + i, none⟩) hkb).trans (hcc i hlt)
          have hx : (l.take 7).getD i 0 ∈ l.take 7 := getD_mem hil
          have hxb := hB.out _ (List.mem_of_mem_take hx)
          have hnext : Hid (sumXY (partsL l 0 ++ (l.take 7).take (i + 1)) = sumS (sumXY (partsL l 0 ++ (l.take 7).take i)) ((l.take 7).getD i 0)) := hid (by rw [take_nextD hil, ← List.append_assoc, sumXY_snoc])
          have hq := sumXY_bd (partsL l 0 ++ (l.take 7).take i)
          have hi64 : (i : Int) < 9223372036854775807 := by omega
          unfold sumS at hnext
          have hltI : (i : Int) < 7 := by omega
          replace hlt := hid hlt
          replace hi := hid hi
          clear hcc hx hbd hpl hil
          generalize (l.take 7).getD i 0 = x at *
          generalize sumXY (partsL l 0 ++ (l.take 7).take i) = y at *
          obtain ⟨y1, y2⟩ := y
          simp only at hq hnext
          replace hb := hid hb
          go_wp2_with fail
          go_roundw
          case rel => exact ⟨i + 1, hlt.out, by rw [hnext.out], by rw [hnext.out], by go_num, hb.out⟩
          case measure => have := hlt.out; simp [Go.RowKit.intOf]; omega
        · obtain rfl : i = 7 := by omega
          have e1 : (l.take 7).take (7) = l.take 7 := List.take_of_length_le (by rw [hpl]; exact Nat.le_refl _)
          rw [e1]
          replace hb := hid hb
          clear hpl
          go_wp2_with fail
          go_roundw
          case rel => exact ⟨0 + 1, by omega, rfl, rfl, rfl, hb.out⟩
          case measure => simp [Go.RowKit.intOf]
    · go_wp2_with fail
      go_loopw [3, 4, 19] (fun u v t wi => ∃ i : Nat, i ≤ 0 ∧ u = .int .u32 (sumXY (partsL l 1 ++ (l.drop 9).take i)).1 ∧ v = .int .u32 (sumXY (partsL l 1 ++ (l.drop 9).take i)).2 ∧ t = .int .i64 i ∧ Below w.heap.size w wi) (fun _ _ t _ => 0 - (Go.RowKit.intOf t).toNat)
      case atStart => exact ⟨0, Nat.zero_le _, by simp, by simp, rfl, hb⟩
      case round =>
        clear hb
        obtain ⟨i, hi, rfl, rfl, rfl, hb⟩ := hrel
        have hpl := hN2.out.1
        by_cases hlt : i < 0
        · exact absurd hlt (by omega)
        · obtain rfl : i = 0 := by omega
          have e1 : (l.drop 9).take (0) = l.drop 9 := List.take_of_length_le (by rw [hpl]; exact Nat.le_refl _)
          rw [e1]
          replace hb := hid hb
          clear hpl
          go_wp2_with fail
          go_roundw
          case rel => exact ⟨1 + 1, by omega, rfl, rfl, rfl, hb.out⟩
          case measure => simp [Go.RowKit.intOf]
    · replace hb := hid hb
      go_wp2_with fail
      go_ret
      exact ⟨rfl, hb.out⟩

theorem sum_any (Q : Nat → Prop) (a : Option Addr) (n c : Nat) (l : List Int) (w : World) (hN : NumsAt Q .u8 w a n l) (h9 : 9 ≤ n) (hcap : n ≤ c) (hbig : c ≤ maxLen) :
    Calls Tryz.prog 88 #[.slice a n c] w fun e w' => e = .returned (.int .u32 (sumL l)) ∧ Below w.heap.size w w' := by
  by_cases hc : c = 9
  · exact sum_b Q a n c l w hN h9 hcap hbig hc
  · exact sum_a Q a n c l w hN h9 hcap hbig hc
end Go.Proofs.YtihkljfcplfldaaGreat
