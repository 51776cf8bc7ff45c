/-
  RdA, RdB, RunK in one text. Nothing here is trusted.
-/
import Derived.Test.YtihkljfcplfldaaGreatPart25
import Derived.WalkLawsBesides
import Derived.Test.YtihkljfcplfldaaGreatPart15
import Derived.Laws.BytesArg
import Derived.Maps.AppendAt
import Derived.Laws.CopyRow
import Derived.Laws.IdiomCopy
import Derived.Deep.RegionLaw
import Derived.Lib.Overlaps
import Derived.Lib.Walk
import Derived.Lib.AppendZerosOnto
set_option linter.unusedVariables false
namespace Go.Proofs.YtihkljfcplfldaaGreat
open Go.RowKit

/-- what a reader panics with -/
def tornC : List PanicEntry := [{ v := .iface 201 (.agg #[]), recovered := false }]

theorem nums_take {Q : Nat → Prop} {k : IntKind} {w : World} {a : Option Addr} {m n : Nat} {l : List Int} (h : NumsAt Q k w a m l) (hn : n ≤ m) : NumsAt Q k w a n (l.take n) := by
  refine ⟨by rw [List.length_take, h.1]; omega, fun x hx => h.2.1 x (List.mem_of_mem_take hx), fun hp => ?_⟩
  obtain ⟨b, off, rfl, hb, hq, hc⟩ := h.2.2 (by omega)
  refine ⟨b, off, rfl, hb, hq, fun i hi => ?_⟩
  rw [hc i (by omega)]
  simp [List.getD, hi]
theorem nums_drop {Q : Nat → Prop} {k : IntKind} {w : World} {ad : Addr} {m n : Nat} {l : List Int} (h : NumsAt Q k w (some ad) m l) (hn : n ≤ m) : NumsAt Q k w (some (ad.add n)) (m - n) (l.drop n) := by
  refine ⟨by rw [List.length_drop, h.1], fun x hx => h.2.1 x (List.mem_of_mem_drop hx), fun hp => ?_⟩
  obtain ⟨b, off, e, hb, hq, hc⟩ := h.2.2 (by omega)
  simp only [Option.some.injEq] at e
  subst e
  have hadd : (⟨b, off, none⟩ : Addr).add n = ⟨b, off + n, none⟩ := by unfold Addr.add; split <;> simp_all
  refine ⟨b, off + n, by rw [hadd], hb, hq, fun i hi => ?_⟩
  have := hc (n + i) (by omega)
  rw [Nat.add_assoc, this]
  simp [List.getD]

/-- the reader, in block rb, has l left; what it reads lies in blocks below H -/
structure Rd (H : Nat) (w : World) (rb : Nat) (l : List Int) (a : Option Addr) (n c : Nat) : Prop where
  box : CellsAt w rb #[.slice a n c] 205
  src : NumsAt (fun b => b < H) .u8 w a n l
  ge : H ≤ rb
  cap : n ≤ c
  big : c ≤ maxLen
  nil : a = none → c = 0
def RdL (H : Nat) (w : World) (rb : Nat) (l : List Int) : Prop := ∃ a n c, Rd H w rb l a n c
theorem Rd.out {H : Nat} {w w' : World} {rb : Nat} {l : List Int} {a : Option Addr} {n c : Nat} (h : Rd H w rb l a n c) (hg : w'.heap[rb]? = w.heap[rb]?) (b : Below H w w') (hs : w.heap.size ≤ w'.heap.size) : Rd H w' rb l a n c := by
  refine ⟨by unfold CellsAt; rw [hg]; exact h.box, ⟨h.src.1, h.src.2.1, fun hp => ?_⟩, h.ge, h.cap, h.big, h.nil⟩
  obtain ⟨kb, ko, rfl, hkb, hq, hc⟩ := h.src.2.2 hp
  exact ⟨kb, ko, rfl, Nat.lt_of_lt_of_le hkb hs, hq, fun i hi => (b.cell (p := ⟨kb, ko + i, none⟩) hq).trans (hc i hi)⟩
theorem RdL.below {H : Nat} {w w' : World} {rb : Nat} {l : List Int} (h : RdL H w rb l) (b : Below w.heap.size w w') : RdL H w' rb l := by
  obtain ⟨a, n, c, h⟩ := h
  exact ⟨a, n, c, h.out (b.block rb h.box.lt) (b.mono (Nat.le_trans h.ge (Nat.le_of_lt h.box.lt))) b.size⟩
theorem RdL.lt {H : Nat} {w : World} {rb : Nat} {l : List Int} (h : RdL H w rb l) : H ≤ rb ∧ rb < w.heap.size := by
  obtain ⟨a, n, c, h⟩ := h
  exact ⟨h.ge, h.box.lt⟩
/-- all but the reader's block, and new ones, is as it was -/
theorem RdL.put {H : Nat} {w : World} {rb : Nat} {l m : List Int} {a a' : Option Addr} {n n' c c' : Nat} (h : Rd H w rb l a n c) (hs : NumsAt (fun b => b < H) .u8 w a' n' m) (hc : n' ≤ c') (hb : c' ≤ maxLen) (hn : a' = none → c' = 0) :
    RdL H (w.setCell ⟨rb, 0, none⟩ (.slice a' n' c')) rb m ∧ Kept rb w (w.setCell ⟨rb, 0, none⟩ (.slice a' n' c')) := by
  have hk : Kept rb w (w.setCell ⟨rb, 0, none⟩ (.slice a' n' c')) := Kept.setCell (g := rb) (Kept.refl _ _) (p := ⟨rb, 0, none⟩) rfl _
  refine ⟨⟨a', n', c', ?_, hs.kept (fun b hb => by have := h.ge; omega) hk, h.ge, hc, hb, hn⟩, hk⟩
  have := h.box.set 0 (.slice a' n' c')
  simpa using this

def RetTk (H : Nat) (w : World) (rb : Nat) (l : List Int) (n : Nat) (e : Ending) (w' : World) : Prop :=
  (n ≤ l.length ∧ ∃ a c, e = .returned (.slice a n c) ∧ NumsAt (fun b => b < H) .u8 w' a n (l.take n) ∧ RdL H w' rb (l.drop n) ∧ Kept rb w w') ∨ (l.length < n ∧ e = .panicked tornC ∧ w' = w)

set_option maxHeartbeats 1000000 in
theorem take_any (H rb n : Nat) (l : List Int) (w : World) (hR : RdL H w rb l) (hn : n ≤ 100000) :
    Calls Tryz.prog 191 #[.pointer (some ⟨rb, 0, none⟩), .int .i64 n] w fun e w' => RetTk H w rb l n e w' := by
  obtain ⟨a, m, c, hR⟩ := hR
  have q0 := hR.box.cell 0
  have qz := hR.box.frozen 0
  simp at q0
  have hm := hid hR.src.1
  have hcap := hR.cap
  have hbig := hR.big
  unfold maxLen at hbig
  by_cases hlt : m < n
  · replace hR := hid hR
    go_enter Tryz.func191, Tryz.ntmps191
    go_wp2_with fail
    exact ⟨rfl, .inr ⟨by rw [hm.out]; exact hlt, rfl, rfl⟩⟩
  · have hnl : Hid (n ≤ l.length) := hid (by rw [hm.out]; omega)
    cases a with
    | none =>
      obtain rfl := hR.nil rfl
      obtain rfl : m = 0 := by omega
      obtain rfl : n = 0 := by omega
      have hput := hid (RdL.put hR (nums_take hR.src (Nat.le_refl 0)) (Nat.le_refl 0) (Nat.zero_le _) (fun _ => rfl))
      have hl0 : l = [] := List.eq_nil_of_length_eq_zero hR.src.1
      subst hl0
      replace hR := hid hR
      go_enter Tryz.func191, Tryz.ntmps191
      go_wp2_with fail
      go_ret
      exact .inl ⟨Nat.zero_le _, none, 0, rfl, numsAt_nil _ _ _ _, hput.out.1, hput.out.2⟩
    | some ad =>
      have hT := nums_take hR.src (n := n) (by omega)
      by_cases hcn : c = n
      · have hcn' := hcn
        subst hcn
        obtain rfl : m = c := by omega
        have hdr : l.drop m = [] := List.drop_eq_nil_of_le (by rw [hm.out]; exact Nat.le_refl _)
        have hput := hid (RdL.put (a' := some ad) (n' := 0) (c' := 0) hR (numsAt_nil _ _ _ _) (by omega) (Nat.zero_le _) (fun _ => rfl))
        have hTk := hid (hT.kept (g := rb) (fun b hb => by have := hR.ge; omega) hput.out.2)
        replace hR := hid hR
        clear hT hcn'
        go_enter Tryz.func191, Tryz.ntmps191
        go_wp2_with fail
        go_ret
        exact .inl ⟨hnl.out, some ad, m, rfl, hTk.out, hdr ▸ hput.out.1, hput.out.2⟩
      · have hput := hid (RdL.put hR (nums_drop hR.src (n := n) (by omega)) (c' := c - n) (by omega) (by unfold maxLen; omega) (fun e => by cases e))
        have hTk := hid (hT.kept (g := rb) (fun b hb => by have := hR.ge; omega) hput.out.2)
        replace hR := hid hR
        clear hT
        go_enter Tryz.func191, Tryz.ntmps191
        go_wp2_with fail
        go_ret
        exact .inl ⟨hnl.out, some ad, c, rfl, hTk.out, hput.out.1, hput.out.2⟩

/-- a number: its two bytes -/
def numP : List Int → Option (Int × List Int)
  | x :: y :: r => some (x * 256 + y, r)
  | _ => none

/-- what a read answers: P says what is read and what is left, or that it ends too early -/
def RetRx {α : Type} (H : Nat) (w : World) (rb : Nat) (p : Option (α × List Int)) (V : α → Value → World → Prop) (e : Ending) (w' : World) : Prop :=
  (∃ x l v, p = some (x, l) ∧ e = .returned v ∧ V x v w' ∧ RdL H w' rb l ∧ Out rb w w') ∨ (p = none ∧ e = .panicked tornC ∧ Out rb w w')

set_option maxHeartbeats 1000000 in
theorem number_any (H rb : Nat) (l : List Int) (w : World) (hR : RdL H w rb l) (hB : Byt l) :
    Calls Tryz.prog 161 #[.pointer (some ⟨rb, 0, none⟩)] w fun e w' => RetRx H w rb (numP l) (fun x v _ => v = .int .i64 x ∧ 0 ≤ x ∧ x < 65536) e w' := by
  replace hR := hid hR
  replace hB := hid hB
  go_enter Tryz.func161, Tryz.ntmps161
  go_wp2_with fail
  refine (take_any H rb 2 l w hR.out (by omega)).mono ?_
  rintro e w1 (⟨hn, a, c, rfl, hN, hR1, hK⟩ | ⟨hn, rfl, rfl⟩)
  · obtain ⟨x, y, r, rfl⟩ : ∃ x y r, l = x :: y :: r := by
      match l, hn with
      | x :: y :: r, _ => exact ⟨x, y, r, rfl⟩
    obtain ⟨kb, ko, rfl, hkb, _, hc⟩ := hN.2.2 (by omega)
    have c0 : w1.cell? ⟨kb, ko, none⟩ = some (.int .u8 x) := hc 0 (by omega)
    have c1 : w1.cell? ⟨kb, ko + 1, none⟩ = some (.int .u8 y) := hc 1 (by omega)
    have bx := hB.out x (by simp)
    have by' := hB.out y (by simp)
    replace hN := hid hN
    replace hR1 := hid hR1
    replace hK := hid hK
    have hor : bits .or .i64 (x * 256) y = x * 256 + y := bits_join .i64 20 (by decide) (fun n h0 h1 => Go.IntWalk.i64_in n (by omega)) 8 (x * 256) y (by omega) (by omega) (by omega) by'.1 by'.2 (by omega)
    clear hc hn
    go_wp2_with fail
    go_region
    go_wp2_with fail
    go_ret
    exact .inl ⟨x * 256 + y, r, _, rfl, rfl, ⟨rfl, by omega, by omega⟩, hR1.out.below (below_drewN _ _ _), (Out.of_kept hK.out).trans (Out.of_below (below_drewN _ _ _))⟩
  · replace hn := hid hn
    go_wp2_with fail
    refine ⟨rfl, .inr ⟨?_, rfl, Out.of_below (Below.refl _ _)⟩⟩
    match l, hn with
    | [], _ => rfl
    | [_], _ => rfl
end Go.Proofs.YtihkljfcplfldaaGreat

namespace Go.Proofs.YtihkljfcplfldaaGreat
open Go.RowKit

theorem RdL.byt {H : Nat} {w : World} {rb : Nat} {l : List Int} (h : RdL H w rb l) : Byt l := by
  obtain ⟨a, n, c, h⟩ := h
  exact fun x hx => by have := bounds_u8 (h.src.2.1 x hx); omega
theorem RdL.out {H : Nat} {w w' : World} {rb : Nat} {l : List Int} (h : RdL H w rb l) {M : Nat → Prop} (o : Only M w w') (hr : ¬ M rb) (hH : ∀ k, M k → H ≤ k) : RdL H w' rb l := by
  have hlt := h.lt
  obtain ⟨a, n, c, h⟩ := h
  exact ⟨a, n, c, h.out (o.block rb hlt.2 hr) (o.below hH (by omega)) o.size⟩

def bytesP (l : List Int) : Option (List Int × List Int) :=
  match numP l with
  | none => none
  | some (n, r) => if n.toNat ≤ r.length then some (r.take n.toNat, r.drop n.toNat) else none
def nameP (l : List Int) : Option (ByteArray × List Int) :=
  match bytesP l with
  | none => none
  | some (b, r) => some (strOfNums b, r)
def listP {α : Type} (one : List Int → Option (α × List Int)) : Nat → List Int → Option (List α × List Int)
  | 0, l => some ([], l)
  | n + 1, l =>
    match one l with
    | none => none
    | some (x, r) =>
      match listP one n r with
      | none => none
      | some (xs, s) => some (x :: xs, s)
theorem listP_add {α : Type} (one : List Int → Option (α × List Int)) (m : Nat) : ∀ (j : Nat) (l : List Int), listP one (j + m) l = match listP one j l with
    | none => none
    | some (xs, r) =>
      match listP one m r with
      | none => none
      | some (ys, s) => some (xs ++ ys, s)
  | 0, l => by
    rw [Nat.zero_add]
    simp only [listP]
    cases listP one m l with
    | none => rfl
    | some p => rfl
  | j + 1, l => by
    rw [show j + 1 + m = (j + m) + 1 by omega]
    simp only [listP]
    cases one l with
    | none => rfl
    | some p =>
      obtain ⟨x, r⟩ := p
      simp only
      rw [listP_add one m j r]
      cases listP one j r with
      | none => rfl
      | some q =>
        obtain ⟨xs, s⟩ := q
        simp only
        cases listP one m s with
        | none => rfl
        | some q' => rfl
theorem listP_next {α : Type} {one : List Int → Option (α × List Int)} {j : Nat} {l r s : List Int} {xs : List α} {x : α} (h : listP one j l = some (xs, r)) (h1 : one r = some (x, s)) : listP one (j + 1) l = some (xs ++ [x], s) := by
  rw [listP_add, h]
  simp [listP, h1]
theorem listP_stop {α : Type} {one : List Int → Option (α × List Int)} {j n : Nat} {l r : List Int} {xs : List α} (h : listP one j l = some (xs, r)) (h1 : one r = none) (hj : j < n) : listP one n l = none := by
  obtain ⟨m, rfl⟩ : ∃ m, n = j + (m + 1) := ⟨n - j - 1, by omega⟩
  rw [listP_add, h]
  simp [listP, h1]
theorem listP_len {α : Type} {one : List Int → Option (α × List Int)} : ∀ {n : Nat} {l r : List Int} {xs : List α}, listP one n l = some (xs, r) → xs.length = n
  | 0, l, r, xs, h => by simp [listP] at h; simp [← h.1]
  | n + 1, l, r, xs, h => by
    simp only [listP] at h
    cases h1 : one l with
    | none => simp [h1] at h
    | some p =>
      obtain ⟨x, s⟩ := p
      simp only [h1] at h
      cases h2 : listP one n s with
      | none => simp [h2] at h
      | some q =>
        obtain ⟨ys, t⟩ := q
        simp only [h2, Option.some.injEq, Prod.mk.injEq] at h
        rw [← h.1, List.length_cons, listP_len h2]

/-- an append of one element to a row of one's own -/
theorem run_append_one (t ty e e' : TypeId) (i : TypeInfo) (z : Value) (k bytes : Nat) (ht : Tryz.prog.underlying t = some (.slice e)) (hi : Tryz.prog.info? e = some i) (hz0 : i.zero = some z) (hz1 : i.size = k) (hz2 : i.bytes = bytes) (hzs : z.cells.size = k) (hsz : 0 < k) (hbb : bytes ≤ 64)
    (base : Nat) (w : World) (v : Value) (n : Nat) (xs : List Value) (hown : w.ownsRow base e k v n xs) (cs : List Value) (hcs : cs.length = k) (h1 : ∀ u ∈ cs, u.oneCell' = true) (g : Nat) (hg : CellsAt w g cs.toArray e') (hn : n ≤ 100000) (hbase : base ≤ w.heap.size) :
    ∃ v' w', (Builtin.append_ #[t, t] ty #[v, .slice (some ⟨g, 0, none⟩) 1 1]).run Tryz.prog w = .ok v' w' ∧ w'.ownsRow base e k v' (n + 1) (xs ++ cs) ∧ w.grownBy w' v.ownBlock ∧ (v'.ownBlock = v.ownBlock ∨ v'.ownBlock = some w.heap.size) := by
  obtain ⟨v', w', hr, ho, hgr, hn', hat⟩ := run_append_own_at (P := Tryz.prog) w base t ty e i z k bytes ht hi hz0 hz1 hz2 hzs hsz v n xs hown ⟨g, 0, none⟩ 1 1 cs (by omega) (fun j u hj => by
    have hadd : (⟨g, 0, none⟩ : Addr).add j = ⟨g, j, none⟩ := by unfold Addr.add; split <;> simp_all
    rw [hadd, hg.cell j]
    simpa using hj) h1 (by unfold maxLen; omega) (by
    have : (n + 1) * bytes ≤ (n + 1) * 64 := Nat.mul_le_mul_left _ hbb
    omega) hbase
  exact ⟨v', w', hr, ho, hgr, hat⟩

/-- a list that is being read, from w on: of the kind M, cells of an element, what an element needs -/
structure LI {M : Type} (cells : M → List Value) (At : (Nat → Prop) → World → M → Prop) (H : Nat) (w wr : World) (rb : Nat) (e : TypeId) (k : Nat) (v : Value) (ms : List M) (l : List Int) : Prop where
  rd : RdL H wr rb l
  out : Out rb w wr
  row : wr.ownsRow w.heap.size e k v ms.length (ms.flatMap cells)
  els : ∀ m ∈ ms, At (fun b => w.heap.size ≤ b ∧ v.ownBlock ≠ some b) wr m
/-- what is asked of what an element needs -/
structure AtOk {M : Type} (At : (Nat → Prop) → World → M → Prop) : Prop where
  only : ∀ {Q K : Nat → Prop} {a b : World} {m : M}, At Q a m → Only K a b → (∀ k, Q k → ¬ K k) → At Q b m
  weaken : ∀ {Q R : Nat → Prop} {w : World} {m : M}, At Q w m → (∀ b, b < w.heap.size → Q b → R b) → At R w m

theorem LI.mid {M : Type} {cells : M → List Value} {At : (Nat → Prop) → World → M → Prop} (hA : AtOk At) {H : Nat} {w wr w5 : World} {rb : Nat} {e : TypeId} {k : Nat} {v : Value} {ms : List M} {l l' : List Int} {m : M} (h : LI cells At H w wr rb e k v ms l) (hrb : rb < w.heap.size)
    (ho : Out rb wr w5) (hr : RdL H w5 rb l') (e' : TypeId) :
    (w5.alloc (.cells (cells m).toArray e')).ownsRow w.heap.size e k v ms.length (ms.flatMap cells) ∧ w.heap.size ≤ (w5.alloc (.cells (cells m).toArray e')).heap.size := by
  have on : Only (fun b => b = rb) wr w5 := Only.of_out ho rfl
  have h1 := on.row h.row (fun b hb e => by have := (h.row.lt b hb).1; omega)
  exact ⟨row_below h1 (below_alloc _ _), Nat.le_trans h.out.size (Nat.le_trans ho.size (below_alloc _ _).size)⟩
theorem LI.step {M : Type} {cells : M → List Value} {At : (Nat → Prop) → World → M → Prop} (hA : AtOk At) {H : Nat} {w wr w5 w7 : World} {rb : Nat} {e e' : TypeId} {k : Nat} {v v' : Value} {ms : List M} {l l' : List Int} {m : M} (h : LI cells At H w wr rb e k v ms l) (hrb : rb < w.heap.size) (hHw : H ≤ w.heap.size)
    (ho : Out rb wr w5) (hr : RdL H w5 rb l') (hm : At (fun b => wr.heap.size ≤ b) w5 m) (hrow : w7.ownsRow w.heap.size e k v' (ms.length + 1) (ms.flatMap cells ++ cells m)) (hg : (w5.alloc (.cells (cells m).toArray e')).grownBy w7 v.ownBlock)
    (hat : v'.ownBlock = v.ownBlock ∨ v'.ownBlock = some (w5.alloc (.cells (cells m).toArray e')).heap.size) : LI cells At H w w7 rb e k v' (ms ++ [m]) l' := by
  have on : Only (fun b => b = rb) wr w5 := Only.of_out ho rfl
  have ba := below_alloc w5 (.cells (cells m).toArray e')
  have hrow5 := on.row h.row (fun b hb e => by have := (h.row.lt b hb).1; omega)
  have og : Only (fun b => v.ownBlock = some b) (w5.alloc (.cells (cells m).toArray e')) w7 := only_grown hg (fun k hk => hk)
  have hvge : ∀ b, v.ownBlock = some b → w.heap.size ≤ b := fun b hb => (h.row.lt b hb).1
  have hvlt : ∀ b, v.ownBlock = some b → b < wr.heap.size := fun b hb => (h.row.lt b hb).2
  have hnew : ∀ b, b < (w5.alloc (.cells (cells m).toArray e')).heap.size → v.ownBlock ≠ some b → v'.ownBlock ≠ some b := fun b hb hn e => by
    rcases hat with h1 | h1
    · exact hn (by rw [← h1]; exact e)
    · rw [h1] at e; cases e; omega
  have o5 := h.out.trans (ho.trans (Out.of_below ba))
  have lift : ∀ x, At (fun b => w.heap.size ≤ b ∧ v.ownBlock ≠ some b) w5 x → At (fun b => w.heap.size ≤ b ∧ v'.ownBlock ≠ some b) w7 x := fun x h5 => by
    have h6 := hA.only h5 (Only.of_below (M := fun _ => False) ba) (fun _ _ m => m)
    have h7 := hA.weaken (R := fun b => w.heap.size ≤ b ∧ v.ownBlock ≠ some b ∧ b < (w5.alloc (.cells (cells m).toArray e')).heap.size) h6 (fun b hb q => ⟨q.1, q.2, hb⟩)
    have h8 := hA.only h7 og (fun b q e => q.2.1 e)
    exact hA.weaken h8 (fun b _ q => ⟨q.1, hnew b q.2.2 q.2.1⟩)
  refine ⟨(hr.below ba).out og (fun e => by have := hvge rb e; omega) (fun b hb => by have := hvge b hb; omega), ?_, ?_, fun x hx => ?_⟩
  · exact ⟨og.os.trans o5.os, og.tape.trans o5.tape, og.output.trans o5.output, Nat.le_trans o5.size og.size, fun b hb hne => (og.block b (Nat.lt_of_lt_of_le hb o5.size) (fun e => by have := hvge b e; omega)).trans (o5.block b hb hne)⟩
  · rw [List.length_append, List.flatMap_append]
    simpa using hrow
  · rcases List.mem_append.1 hx with hx | hx
    · exact lift x (hA.only (h.els x hx) on (fun b q e => by have := q.1; omega))
    · rw [List.mem_singleton.1 hx]
      exact lift m (hA.weaken hm (fun b _ q => ⟨Nat.le_trans h.out.size q, fun e => by have := hvlt b e; omega⟩))

/-- a list that was read -/
structure ListV {M : Type} (cells : M → List Value) (At : (Nat → Prop) → World → M → Prop) (base : Nat) (e : TypeId) (k : Nat) (ms : List M) (v : Value) (w : World) : Prop where
  val : ∃ a c, v = .slice a ms.length c
  row : w.ownsRow base e k v ms.length (ms.flatMap cells)
  els : ∀ m ∈ ms, At (fun b => base ≤ b ∧ v.ownBlock ≠ some b) w m
theorem LI.val {M : Type} {cells : M → List Value} {At : (Nat → Prop) → World → M → Prop} {H : Nat} {w wr : World} {rb : Nat} {e : TypeId} {k : Nat} {v : Value} {ms : List M} {l : List Int} (h : LI cells At H w wr rb e k v ms l) : ∃ a c, v = .slice a ms.length c := by
  rcases h.row.2 with ⟨hv, h0⟩ | ⟨g, cap, cur, hv, _⟩
  · exact ⟨none, 0, by rw [hv, h0]⟩
  · exact ⟨_, _, hv⟩
theorem LI.start {M : Type} {cells : M → List Value} {At : (Nat → Prop) → World → M → Prop} {H : Nat} {w : World} {rb : Nat} {e : TypeId} {k : Nat} {l : List Int} (h : RdL H w rb l) : LI cells At H w w rb e k (.slice none 0 0) [] l :=
  ⟨h, Out.of_below (Below.refl _ _), World.ownsRow_nil _ _ _ _, fun m hm => by simp at hm⟩

theorem conv_bytes (w : World) (a : Option Addr) (n c : Nat) (b : List Int) (Q : Nat → Prop) (h : NumsAt Q .u8 w a n b) : (convert 28 9 (.slice a n c)).run Tryz.prog w = .ok (.string (strOfNums b)) w := by
  rcases Nat.eq_zero_or_pos n with h0 | h0
  · subst h0
    have hb : b = [] := List.eq_nil_of_length_eq_zero h.1
    subst hb
    rw [run_convert_bytes_string w 28 9 5 _ 0 c Tryz.underlying28 Tryz.underlying5 Tryz.underlying9]
    cases a <;> simp [Conv.bytesToString, loadCells]
    all_goals rfl
  · obtain ⟨kb, ko, rfl, _, _, hc⟩ := h.2.2 h0
    exact run_convert_bytes_arg w 28 5 Tryz.underlying28 Tryz.underlying5 kb ko n c b h.1 hc 9 Tryz.underlying9

set_option maxHeartbeats 1000000 in
set_option maxRecDepth 100000 in
theorem rbytes_any (H rb : Nat) (l : List Int) (w : World) (hR : RdL H w rb l) :
    Calls Tryz.prog 193 #[.pointer (some ⟨rb, 0, none⟩)] w fun e w' => RetRx H w rb (bytesP l) (fun b v w' => b.length < 65536 ∧ ∃ a c, v = .slice a b.length c ∧ b.length ≤ c ∧ NumsAt (fun k => w.heap.size ≤ k) .u8 w' a b.length b) e w' := by
  have hlt := hid hR.lt
  replace hR := hid hR
  go_enter Tryz.func193, Tryz.ntmps193
  go_wp2_with fail
  refine (number_any H rb l w hR.out hR.out.byt).mono ?_
  rintro e w1 (⟨n, r, v, hp, rfl, ⟨rfl, hn0, hn1⟩, hR1, hO1⟩ | ⟨hp, rfl, hO1⟩)
  · obtain ⟨m, rfl⟩ : ∃ m : Nat, n = (m : Int) := ⟨n.toNat, by omega⟩
    replace hp := hid hp
    replace hO1 := hid hO1
    replace hR1 := hid hR1
    go_wp2_with fail
    refine (take_any H rb m r w1 hR1.out (by omega)).mono ?_
    rintro e w2 (⟨hn, a, c, rfl, hN, hR2, hK⟩ | ⟨hn, rfl, rfl⟩)
    · have hO2 := hO1.out.trans (Out.of_kept hK)
      obtain ⟨v2, w3, hrun, hrow, hg, hat⟩ := run_append_u8 w2 w.heap.size 28 (.slice none 0 0) 0 [] (World.ownsRow_nil _ _ _ _) a m c (r.take m) (hN.weaken fun _ _ _ => trivial) hO2.size (by omega) (by omega)
      rw [Nat.zero_add, List.nil_append] at hrow
      have b3 : Below w2.heap.size w2 w3 := ⟨hg.os, hg.tape, hg.output, hg.size, fun k hk => hg.block k hk (by simp [Value.ownBlock])⟩
      obtain ⟨va, vc, rfl, hvc, hN3⟩ := numsAt_own (fun x hx => hN.2.1 x hx) hrow
      have hR3 := hid (hR2.below b3)
      have hO3 := hid (hO2.trans (Out.of_below b3))
      have hlen : (r.take m).length = m := hN.1
      have hN3' : Hid (NumsAt (fun k => w.heap.size ≤ k) .u8 w3 va (r.take m).length (r.take m)) := hid (by rw [hlen]; exact hN3)
      have hP : Hid (bytesP l = some (r.take m, r.drop m)) := hid (by unfold bytesP; rw [hp.out]; simp [hn])
      have hlen' := hid hlen
      clear hrow hg hat hN hR2 hK hO2 b3 hN3 hn hlen
      go_wp2_with (at_builtin; refine Lib.wpList_append_run _ rfl _ _ _ _ rfl _ _ rfl rfl _ _ hrun ?_)
      go_ret
      exact .inl ⟨r.take m, r.drop m, .slice va m vc, hP.out, rfl, ⟨by rw [hlen'.out]; omega, va, vc, by rw [hlen'.out], by rw [hlen'.out]; exact hvc, hN3'.out⟩, hR3.out, hO3.out⟩
    · have hP : Hid (bytesP l = none) := hid (by
        unfold bytesP; rw [hp.out]
        have : ¬ m ≤ r.length := by omega
        simp [this])
      clear hn
      go_wp2_with fail
      exact ⟨rfl, .inr ⟨hP.out, rfl, hO1.out⟩⟩
  · have hP : Hid (bytesP l = none) := hid (by unfold bytesP; rw [hp])
    replace hO1 := hid hO1
    clear hp
    go_wp2_with fail
    exact ⟨rfl, .inr ⟨hP.out, rfl, hO1.out⟩⟩

set_option maxHeartbeats 1000000 in
set_option maxRecDepth 100000 in
theorem rname_any (H rb : Nat) (l : List Int) (w : World) (hR : RdL H w rb l) :
    Calls Tryz.prog 209 #[.pointer (some ⟨rb, 0, none⟩)] w fun e w' => RetRx H w rb (nameP l) (fun s v _ => v = .string s ∧ s.size < 65536) e w' := by
  have hlt := hid hR.lt
  replace hR := hid hR
  go_enter Tryz.func209, Tryz.ntmps209
  go_wp2_with fail
  refine (number_any H rb l w hR.out hR.out.byt).mono ?_
  rintro e w1 (⟨n, r, v, hp, rfl, ⟨rfl, hn0, hn1⟩, hR1, hO1⟩ | ⟨hp, rfl, hO1⟩)
  · obtain ⟨m, rfl⟩ : ∃ m : Nat, n = (m : Int) := ⟨n.toNat, by omega⟩
    replace hp := hid hp
    replace hO1 := hid hO1
    replace hR1 := hid hR1
    go_wp2_with fail
    refine (take_any H rb m r w1 hR1.out (by omega)).mono ?_
    rintro e w2 (⟨hn, a, c, rfl, hN, hR2, hK⟩ | ⟨hn, rfl, rfl⟩)
    · have hO2 := hid (hO1.out.trans (Out.of_kept hK))
      have hcv := conv_bytes w2 a m c (r.take m) _ hN
      have hP : Hid (nameP l = some (strOfNums (r.take m), r.drop m)) := hid (by unfold nameP bytesP; rw [hp.out]; simp [hn])
      have hsz : Hid ((strOfNums (r.take m)).size < 65536) := hid (by rw [strOfNums_size, hN.1]; omega)
      replace hR2 := hid hR2
      clear hN hK hn
      go_wp2_with fail
      go_ret
      exact .inl ⟨_, r.drop m, _, hP.out, rfl, ⟨rfl, hsz.out⟩, hR2.out, hO2.out⟩
    · have hP : Hid (nameP l = none) := hid (by
        unfold nameP bytesP; rw [hp.out]
        have : ¬ m ≤ r.length := by omega
        simp [this])
      clear hn
      go_wp2_with fail
      exact ⟨rfl, .inr ⟨hP.out, rfl, hO1.out⟩⟩
  · have hP : Hid (nameP l = none) := hid (by unfold nameP bytesP; rw [hp])
    replace hO1 := hid hO1
    clear hp
    go_wp2_with fail
    exact ⟨rfl, .inr ⟨hP.out, rfl, hO1.out⟩⟩
end Go.Proofs.YtihkljfcplfldaaGreat

namespace Go.Proofs.YtihkljfcplfldaaGreat
open Go.RowKit

/-- copy, where its run is known -/
theorem wp_copy_runK {P : Program} (w : World) {o : Oper} {a : Act} {K : Act → World → Prop} {Q : Exit → Act → World → Prop} (d s : Operand) (t t' : TypeId)
    (ho : o.op = .call { callee := .builtin .copy, args := #[d, s], argTypes := #[t, t'] }) (v u : Value) (hd : a.eval d = v) (hs : a.eval s = u) {v' : Value} {w' : World}
    (hr : (Builtin.copy_ #[t, t'] o.type #[v, u]).run P w = .ok v' w') (h : K (a.put o.dst v') w') : o.wp P a w K Q := by
  unfold Oper.wp
  simp [execOp, ho, resolve, invoke, builtin, hd, hs, hr, Result.andThen]
  exact h
theorem wpList_copy_runK {P : Program} (w : World) {ops : Array Oper} {rest : List Oper} {o : Oper} {a : Act} {Q : Exit → Act → World → Prop} (hgd : o.guard = none) (d s : Operand) (t t' : TypeId)
    (ho : o.op = .call { callee := .builtin .copy, args := #[d, s], argTypes := #[t, t'] }) (v u : Value) (hd : a.eval d = v) (hs : a.eval s = u) {v' : Value} {w' : World}
    (hr : (Builtin.copy_ #[t, t'] o.type #[v, u]).run P w = .ok v' w') (h : wpList P ops Q rest (a.put o.dst v') w') : wpList P ops Q (o :: rest) a w :=
  wpList_plain hgd fun _ hK => wp_copy_runK w d s t t' ho v u hd hs hr (hK _ _ h)
theorem step_copy_runK {P : Program} {ops : Array Oper} {o : Oper} {a : Act} {w : World} {K : Act → World → Prop} {Q : Exit → Act → World → Prop} {E : Prop}
    (hg : o.guard = none) (d x : Operand) (dT sT : TypeId) (hop : o.op = Op.call { callee := Callee.builtin Builtin.copy, args := #[d, x], argTypes := #[dT, sT] })
    (v u : Value) (hd : a.eval d = v) (hx : a.eval x = u) {v' : Value} {w' : World} (hr : (Builtin.copy_ #[dT, sT] o.type #[v, u]).run P w = .ok v' w') (hK : K (a.put o.dst v') w') :
    if Region.wanted o (yielded ops a.tmps) = true then Oper.wp P o a w K Q else E := by
  have hw : Region.wanted o (yielded ops a.tmps) = true := by simp [Region.wanted, hg]
  rw [if_pos hw]
  exact wp_copy_runK w d x dT sT hop v u hd hx hr hK

/-- cells laid over others -/
def layAt (cur : Array Value) (o : Nat) (vs : List Value) : Array Value := (cur.toList.take o ++ vs ++ cur.toList.drop (o + vs.length)).toArray
theorem layAt_size {cur : Array Value} {o : Nat} {vs : List Value} (h : o + vs.length ≤ cur.size) : (layAt cur o vs).size = cur.size := by
  unfold layAt
  simp
  omega
theorem layAt_list (cur : Array Value) (o : Nat) (vs : List Value) : (layAt cur o vs).toList = cur.toList.take o ++ vs ++ cur.toList.drop (o + vs.length) := by
  unfold layAt
  simp
theorem layAt_take {cur : Array Value} {o n : Nat} {vs : List Value} (h : o + vs.length ≤ cur.size) (hn : n ≤ o) : (layAt cur o vs).toList.take n = cur.toList.take n := by
  rw [layAt_list, List.append_assoc, List.take_append_of_le_length (by simp; omega), List.take_take]
  congr 1
  omega
theorem layAt_take2 {cur : Array Value} {o : Nat} {vs : List Value} (h : o + vs.length ≤ cur.size) : (layAt cur o vs).toList.take (o + vs.length) = cur.toList.take o ++ vs := by
  rw [layAt_list]
  exact List.take_left' (by simp; omega)

theorem run_copy_rowk {P : Program} (w : World) (dT sT ty elem : TypeId) (k g o dLen dCap : Nat) (a : Addr) (sLen sCap : Nat) (cur : Array Value) (t : TypeId) (cs : List Value)
    (hu : P.underlying dT = some (.slice elem)) (hs : (P.info? elem).map (·.size) = some k)
    (hg : CellsAt w g cur t) (hn : cs.length = Nat.min sLen dLen * k)
    (hsrc : ∀ j v, cs[j]? = some v → w.cell? (a.add j) = some v) (hfit : o + cs.length ≤ cur.size) (h1 : ∀ v ∈ cs, v.oneCell' = true) :
    (Builtin.copy_ #[dT, sT] ty #[.slice (some ⟨g, o, none⟩) dLen dCap, .slice (some a) sLen sCap]).run P w =
      .ok (goInt (Nat.min sLen dLen)) (w.setRow g (layAt cur o cs)) := by
  have hl := run_loadCells_list (P := P) w a cs hsrc
  have hst := run_storeCells_at P g o t cs 0 cur w hg (by simpa using hfit) h1
  cases hq : P.info? elem with
  | none => simp [hq] at hs
  | some i =>
    have hi : i.size = k := by simpa [hq] using hs
    simp [Builtin.copy_, run_underlying hu, Builtin.lenOf, Builtin.firstCells, sizeOf, typeInfo, hq, hi, ← hn, hl, hst, layAt]
theorem setRow_cells {w : World} {g : Nat} {cur cur' : Array Value} {t : TypeId} (hg : CellsAt w g cur t) : CellsAt (w.setRow g cur') g cur' t := setRow_heap w g cur cur' t (0, 0) hg
theorem setRow_kept (w : World) (g : Nat) (cur : Array Value) : Kept g w (w.setRow g cur) := by
  refine ⟨rfl, rfl, rfl, by unfold World.setRow; simp, fun k hk => ?_⟩
  unfold World.setRow
  simp only [Array.getElem?_modify]
  rw [if_neg (fun e => hk e.symm)]
theorem setCells_cells {g : Nat} {t : TypeId} : ∀ (vs : List Value) (o : Nat) (w : World) (cur : Array Value), CellsAt w g cur t → o + vs.length ≤ cur.size → CellsAt (w.setCells g o vs) g (layAt cur o vs) t
  | [], o, w, cur, hg, _ => by
    have : layAt cur o [] = cur := by unfold layAt; simp
    rw [this]
    exact hg
  | v :: r, o, w, cur, hg, h => by
    simp only [List.length_cons] at h
    have h1 := hg.set o v
    have h2 := setCells_cells r (o + 1) _ _ h1 (by simp; omega)
    have e : layAt (cur.setIfInBounds o v) (o + 1) r = layAt cur o (v :: r) := by
      unfold layAt
      congr 1
      have := list_seg_step cur.toList o v r (by simp; omega)
      simpa [Array.toList_setIfInBounds, Nat.add_assoc] using this
    rw [e] at h2
    exact h2
theorem setCells_kept (g : Nat) : ∀ (vs : List Value) (o : Nat) (w : World), Kept g w (w.setCells g o vs)
  | [], _, w => Kept.refl _ _
  | v :: r, o, w => (Kept.setCell (g := g) (Kept.refl _ _) (p := ⟨g, o, none⟩) rfl v).trans (setCells_kept g r (o + 1) _)
theorem run_clear_rowk {P : Program} (w : World) (t e tc : TypeId) (z : Value) (k g o n c : Nat) (cur : Array Value) (ht : P.underlying t = some (.slice e)) (hv : ∀ w, (zeroValue e).run P w = .ok z w) (hz : z.cells.size = k) (h1 : ∀ v ∈ z.cells.toList, v.oneCell' = true) (hn : 0 < n)
    (hg : CellsAt w g cur tc) (hfit : o + n * k ≤ cur.size) :
    ∃ vs : List Value, vs.length = n * k ∧ ∀ ty : TypeId, (Builtin.clear_ #[t] ty #[.slice (some ⟨g, o, none⟩) n c]).run P w = .ok (.tuple #[]) (w.setRow g (layAt cur o vs)) := by
  refine ⟨(Builtin.zeroCells z.cells n).toList, by simp [Builtin.zeroCells, hz], fun ty => ?_⟩
  have hlen : (Builtin.zeroCells z.cells n).toList.length = n * k := by simp [Builtin.zeroCells, hz]
  have hone : ∀ v ∈ (Builtin.zeroCells z.cells n).toList, v.oneCell' = true := by
    intro v hv
    simp only [Builtin.zeroCells, Array.toList_map, List.mem_map] at hv
    obtain ⟨j, hj, rfl⟩ := hv
    by_cases hk : k = 0
    · subst hk
      rw [hz] at hj
      simp at hj
    · have hlt : j % z.cells.size < z.cells.size := Nat.mod_lt _ (by omega)
      rw [getElem!_pos z.cells _ hlt]
      exact h1 _ (by simp)
  have hst := run_storeCells_at P g o tc (Builtin.zeroCells z.cells n).toList 0 cur w hg (by rw [hlen]; simpa using hfit) hone
  cases n with
  | zero => omega
  | succ n => simp [Builtin.clear_, run_underlying ht, hv, hst, layAt]
end Go.Proofs.YtihkljfcplfldaaGreat
