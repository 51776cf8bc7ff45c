/-
  PoolA, PoolB, PoolC in one text. Nothing here is trusted.
-/
import Derived.Test.YtnmcgmpmcliinaaGreatPart13
import Derived.Test.YtnmcgmpmcliinaaGreatPart04
import Derived.Laws.AppendOwnNone
import Derived.Lib.AppendZeros
import Derived.Deep.DeepAppendRoom
set_option linter.unusedVariables false
namespace Go.Proofs.YtnmcgmpmcliinaaGreat
open Go.RowKit
def SetE.zero : SetE := ⟨ByteArray.empty, [], []⟩
instance : Inhabited SetE := ⟨SetE.zero⟩
def SetE.nm (x : SetE) : List UInt8 := x.name.data.toList
structure SetIn (Q : Nat → Prop) (w : World) (b off : Nat) (x : SetE) (v : SetV) : Prop where
  c0 : w.cell? ⟨b, off, none⟩ = some (.string v.name)
  c1 : w.cell? ⟨b, off + 1, none⟩ = some (.slice v.fa v.fn v.fc)
  c2 : w.cell? ⟨b, off + 2, none⟩ = some (.slice v.sa v.sn v.sc)
  ok : SetAt Q w v x
theorem SetIn.below {Q : Nat → Prop} {w w' : World} {b off : Nat} {x : SetE} {v : SetV} (h : SetIn Q w b off x v) (hb : Below w.heap.size w w') : SetIn Q w' b off x v := by
  have hlt := cell_lt h.c0
  exact ⟨(hb.cell (p := ⟨b, off, none⟩) hlt).trans h.c0, (hb.cell (p := ⟨b, off + 1, none⟩) hlt).trans h.c1, (hb.cell (p := ⟨b, off + 2, none⟩) hlt).trans h.c2, h.ok.below hb⟩
theorem SetIn.weaken {Q R : Nat → Prop} {w : World} {b off : Nat} {x : SetE} {v : SetV} (h : SetIn Q w b off x v) (hq : ∀ b, b < w.heap.size → Q b → R b) : SetIn R w b off x v := ⟨h.c0, h.c1, h.c2, h.ok.weaken hq⟩
def SetsAt (Q : Nat → Prop) (w : World) (a : Option Addr) (n : Nat) (l : List SetE) : Prop :=
  l.length = n ∧ (0 < n → ∃ b off, a = some ⟨b, off, none⟩ ∧ b < w.heap.size ∧ Q b ∧ ∀ i, i < n → ∃ v, SetIn Q w b (off + i * 3) (l.getD i SetE.zero) v)
theorem setsAt_nil (Q : Nat → Prop) (w : World) (a : Option Addr) : SetsAt Q w a 0 [] := ⟨rfl, fun h => absurd h (by omega)⟩
theorem SetsAt.below {Q : Nat → Prop} {w w' : World} {a : Option Addr} {n : Nat} {l : List SetE} (h : SetsAt Q w a n l) (hb : Below w.heap.size w w') : SetsAt Q w' a n l := by
  refine ⟨h.1, fun hn => ?_⟩
  obtain ⟨b, off, rfl, hlt, hq, hc⟩ := h.2 hn
  refine ⟨b, off, rfl, Nat.lt_of_lt_of_le hlt hb.size, hq, fun i hi => ?_⟩
  obtain ⟨v, hs⟩ := hc i hi
  exact ⟨v, hs.below hb⟩
theorem SetsAt.weaken {Q R : Nat → Prop} {w : World} {a : Option Addr} {n : Nat} {l : List SetE} (h : SetsAt Q w a n l) (hq : ∀ b, b < w.heap.size → Q b → R b) : SetsAt R w a n l := by
  refine ⟨h.1, fun hn => ?_⟩
  obtain ⟨b, off, rfl, hlt, q, hc⟩ := h.2 hn
  refine ⟨b, off, rfl, hlt, hq b hlt q, fun i hi => ?_⟩
  obtain ⟨v, hs⟩ := hc i hi
  exact ⟨v, hs.weaken hq⟩
theorem SetsAt.set {Q : Nat → Prop} {w : World} {b off n : Nat} {l : List SetE} (h : SetsAt Q w (some ⟨b, off, none⟩) n l) {i : Nat} (hi : i < n) : ∃ v, SetIn Q w b (off + i * 3) (l.getD i SetE.zero) v := by
  obtain ⟨b', off', e, _, _, hc⟩ := h.2 (by omega)
  simp only [Option.some.injEq, Addr.mk.injEq, and_true] at e
  obtain ⟨rfl, rfl⟩ := e
  exact hc i hi
structure TenE where
  key : Int
  quota : Int
  sets : List SetE
def TenE.zero : TenE := ⟨0, 0, []⟩
instance : Inhabited TenE := ⟨TenE.zero⟩
def TenE.val (t : TenE) (sa : Option Addr) (sn sc : Nat) : Value := .agg #[.int .i64 t.key, .int .i64 t.quota, .slice sa sn sc]
structure TenAt (Q : Nat → Prop) (w : World) (t : TenE) (sa : Option Addr) (sn sc : Nat) : Prop where
  sets : SetsAt Q w sa sn t.sets
  kb : -9223372036854775808 ≤ t.key ∧ t.key ≤ 9223372036854775807
  qb : -9223372036854775808 ≤ t.quota ∧ t.quota ≤ 9223372036854775807
  caps : sn ≤ sc
theorem TenAt.below {Q : Nat → Prop} {w w' : World} {t : TenE} {sa : Option Addr} {sn sc : Nat} (h : TenAt Q w t sa sn sc) (hb : Below w.heap.size w w') : TenAt Q w' t sa sn sc := ⟨h.sets.below hb, h.kb, h.qb, h.caps⟩
theorem TenAt.weaken {Q R : Nat → Prop} {w : World} {t : TenE} {sa : Option Addr} {sn sc : Nat} (h : TenAt Q w t sa sn sc) (hq : ∀ b, b < w.heap.size → Q b → R b) : TenAt R w t sa sn sc := ⟨h.sets.weaken hq, h.kb, h.qb, h.caps⟩
structure TenIn (Q : Nat → Prop) (w : World) (b off : Nat) (t : TenE) (sa : Option Addr) (sn sc : Nat) : Prop where
  c0 : w.cell? ⟨b, off, none⟩ = some (.int .i64 t.key)
  c1 : w.cell? ⟨b, off + 1, none⟩ = some (.int .i64 t.quota)
  c2 : w.cell? ⟨b, off + 2, none⟩ = some (.slice sa sn sc)
  ok : TenAt Q w t sa sn sc
theorem TenIn.below {Q : Nat → Prop} {w w' : World} {b off : Nat} {t : TenE} {sa : Option Addr} {sn sc : Nat} (h : TenIn Q w b off t sa sn sc) (hb : Below w.heap.size w w') : TenIn Q w' b off t sa sn sc := by
  have hlt := cell_lt h.c0
  exact ⟨(hb.cell (p := ⟨b, off, none⟩) hlt).trans h.c0, (hb.cell (p := ⟨b, off + 1, none⟩) hlt).trans h.c1, (hb.cell (p := ⟨b, off + 2, none⟩) hlt).trans h.c2, h.ok.below hb⟩
theorem TenIn.weaken {Q R : Nat → Prop} {w : World} {b off : Nat} {t : TenE} {sa : Option Addr} {sn sc : Nat} (h : TenIn Q w b off t sa sn sc) (hq : ∀ b, b < w.heap.size → Q b → R b) : TenIn R w b off t sa sn sc := ⟨h.c0, h.c1, h.c2, h.ok.weaken hq⟩
def TensAt (Q : Nat → Prop) (w : World) (a : Option Addr) (n : Nat) (l : List TenE) : Prop :=
  l.length = n ∧ (0 < n → ∃ b off, a = some ⟨b, off, none⟩ ∧ b < w.heap.size ∧ Q b ∧ ∀ i, i < n → ∃ sa sn sc, TenIn Q w b (off + i * 3) (l.getD i TenE.zero) sa sn sc)
theorem tensAt_nil (Q : Nat → Prop) (w : World) (a : Option Addr) : TensAt Q w a 0 [] := ⟨rfl, fun h => absurd h (by omega)⟩
theorem TensAt.below {Q : Nat → Prop} {w w' : World} {a : Option Addr} {n : Nat} {l : List TenE} (h : TensAt Q w a n l) (hb : Below w.heap.size w w') : TensAt Q w' a n l := by
  refine ⟨h.1, fun hn => ?_⟩
  obtain ⟨b, off, rfl, hlt, hq, hc⟩ := h.2 hn
  refine ⟨b, off, rfl, Nat.lt_of_lt_of_le hlt hb.size, hq, fun i hi => ?_⟩
  obtain ⟨sa, sn, sc, hs⟩ := hc i hi
  exact ⟨sa, sn, sc, hs.below hb⟩
theorem TensAt.weaken {Q R : Nat → Prop} {w : World} {a : Option Addr} {n : Nat} {l : List TenE} (h : TensAt Q w a n l) (hq : ∀ b, b < w.heap.size → Q b → R b) : TensAt R w a n l := by
  refine ⟨h.1, fun hn => ?_⟩
  obtain ⟨b, off, rfl, hlt, q, hc⟩ := h.2 hn
  refine ⟨b, off, rfl, hlt, hq b hlt q, fun i hi => ?_⟩
  obtain ⟨sa, sn, sc, hs⟩ := hc i hi
  exact ⟨sa, sn, sc, hs.weaken hq⟩
theorem TensAt.ten {Q : Nat → Prop} {w : World} {b off n : Nat} {l : List TenE} (h : TensAt Q w (some ⟨b, off, none⟩) n l) {i : Nat} (hi : i < n) : ∃ sa sn sc, TenIn Q w b (off + i * 3) (l.getD i TenE.zero) sa sn sc := by
  obtain ⟨b', off', e, _, _, hc⟩ := h.2 (by omega)
  simp only [Option.some.injEq, Addr.mk.injEq, and_true] at e
  obtain ⟨rfl, rfl⟩ := e
  exact hc i hi
def rootsL (l : List SetE) : List Int := l.flatMap rootsX
def rootsT (t : TenE) : List Int := rootsL t.sets
def rootsP (l : List TenE) : List Int := l.flatMap rootsT
structure TenOk (n : Nat) (B : Nat → Blk) (t : TenE) : Prop where
  kb : 0 ≤ t.key ∧ t.key ≤ 1000
  qb : 0 ≤ t.quota ∧ t.quota ≤ 400
  few : t.sets.length ≤ 3
  sets : ∀ x ∈ t.sets, SetOk n B t.key x
  order : t.sets.Pairwise fun a b => a.nm < b.nm
def Uses (B : Nat → Blk) (R : List Int) (m : Int) : Prop := ∃ L : List Int, Rising L ∧ (∀ x, x ∈ L ↔ Clo B R x) ∧ (L.length : Int) = m
def sumQ (l : List TenE) : Int := (l.map (·.quota)).sum
structure PoolOk (n : Nat) (B : Nat → Blk) (l : List TenE) : Prop where
  right : Right n B
  few : l.length ≤ 3
  tens : ∀ t ∈ l, TenOk n B t
  room : 0 < l.length → sumQ l + 90 ≤ n
  uses : ∀ t ∈ l, ∃ m, Uses B (rootsT t) m ∧ m ≤ t.quota
  apart : l.Pairwise fun t u => ∀ x, Clo B (rootsT t) x → ¬ Clo B (rootsT u) x
  held : ∀ k, k < n → outs n B k = ((rootsP l).count ((k : Int) + 1) : Int)
theorem rootsL_take {l : List SetE} {j : Nat} {x : SetE} (hx : l[j]? = some x) : rootsL (l.take (j + 1)) = rootsL (l.take j) ++ rootsX x := by
  unfold rootsL
  rw [take_next hx, List.flatMap_append]
  simp
theorem TenOk.rootBd {n : Nat} {B : Nat → Blk} {t : TenE} (h : TenOk n B t) : ∀ r ∈ rootsT t, r = 0 ∨ (1 ≤ r ∧ r ≤ n) := fun r hr => by
  obtain ⟨x, hx, hr⟩ := List.mem_flatMap.1 hr
  exact (h.sets x hx).rootBd r hr
theorem rootsL_len : ∀ (l : List SetE), (∀ x ∈ l, Shape x) → (rootsL l).length ≤ l.length * 24
  | [], _ => by simp [rootsL]
  | x :: l, h => by
    have h1 := shape_len (h x (by simp))
    have h2 := rootsL_len l (fun y hy => h y (by simp [hy]))
    simp only [rootsL, List.flatMap_cons, List.length_append, List.length_cons] at *
    omega
theorem TenOk.shapes {n : Nat} {B : Nat → Blk} {t : TenE} (h : TenOk n B t) : ∀ x ∈ t.sets, Shape x := fun x hx => (h.sets x hx).shape
theorem rootsT_len {n : Nat} {B : Nat → Blk} {t : TenE} (h : TenOk n B t) : (rootsT t).length ≤ 72 := by
  have h1 := rootsL_len t.sets h.shapes
  have := h.few
  unfold rootsT
  omega
theorem run_append_i64 (w : World) (base : Nat) (ty : TypeId) (v : Value) (k : Nat) (xs : List Value) (hv : w.ownsRow base 3 1 v k xs) (xa : Option Addr) (m c : Nat) (ys : List Int) (hN : NumsAt (fun _ => True) .i64 w xa m ys)
    (hx : xa = none → m = 0 ∧ c = 0) (hbase : base ≤ w.heap.size) (hk : k ≤ 100000) (hm : m ≤ 100000) :
    ∃ v' w', (Builtin.append_ #[77, 77] ty #[v, .slice xa m c]).run Tryz.prog w = .ok v' w' ∧ w'.ownsRow base 3 1 v' (k + m) (xs ++ ys.map (Value.int .i64)) ∧ w.grownBy w' v.ownBlock := by
  obtain ⟨i0, hi, hz0, hz1, hz2⟩ := info_parts Tryz.infoInt
  cases xa with
  | none =>
    obtain ⟨rfl, rfl⟩ := hx rfl
    obtain rfl : ys = [] := List.eq_nil_of_length_eq_zero hN.1
    exact ⟨v, w, run_append_owned_none (P := Tryz.prog) (w := w) base 77 ty 3 i0 1 Tryz.underlying77 hi v k xs hv, by simpa using hv, ⟨rfl, rfl, rfl, Nat.le_refl _, fun _ _ _ => rfl⟩⟩
  | some a =>
    have hl : (ys.map (Value.int .i64)).length = m * 1 := by simp [hN.1]
    have hnews : ∀ j u, (ys.map (Value.int .i64))[j]? = some u → w.cell? (a.add j) = some u := by
      intro j u hj
      obtain ⟨hj1, hj2⟩ := List.getElem?_eq_some_iff.1 hj
      have hjm : j < m := by simpa [hN.1] using hj1
      obtain ⟨b, off, ha, _, _, hc⟩ := hN.2.2 (by omega)
      cases ha
      have := hc j hjm
      have hjy : j < ys.length := by rw [hN.1]; exact hjm
      rw [show ((⟨b, off, none⟩ : Addr).add j) = ⟨b, off + j, none⟩ by simp [Addr.add], this, ← hj2]
      simp [List.getD, hjy]
    have h1 : ∀ u ∈ ys.map (Value.int .i64), u.oneCell' = true := by
      intro u hu
      obtain ⟨y, _, rfl⟩ := List.mem_map.1 hu
      rfl
    obtain ⟨v', w', hr, ho, hg, hn⟩ := run_append_own (P := Tryz.prog) w base 77 ty 3 i0 (.int .i64 0) 1 8 Tryz.underlying77 hi hz0 hz1 hz2 rfl (by decide) _ k xs hv a m c _ hl hnews h1 (by unfold maxLen; omega) (by omega) hbase
    exact ⟨v', w', hr, ho, hg⟩
theorem row_nums {w : World} {lo : Nat} {a : Option Addr} {c : Nat} {R : List Int} (hr : w.ownsRow lo 3 1 (.slice a R.length c) R.length (R.map (Value.int .i64))) (hw : ∀ r ∈ R, (Lit.int .i64 r).wf = true) : NumsAt (fun b => lo ≤ b) .i64 w a R.length R := by
  obtain ⟨a', c', hv, _, hN⟩ := numsAt_own hw hr
  simp only [Value.slice.injEq] at hv
  obtain ⟨rfl, _, rfl⟩ := hv
  exact hN
theorem row_none {w : World} {base : Nat} {e : TypeId} {size n c m : Nat} {a : Option Addr} {xs : List Value} (h : w.ownsRow base e size (.slice a n c) m xs) : a = none → n = 0 ∧ c = 0 := by
  intro ha
  rcases h.2 with ⟨hv, h0⟩ | ⟨g, cap, cur, hv, _⟩
  · simp only [Value.slice.injEq] at hv
    exact ⟨hv.2.1, hv.2.2⟩
  · simp only [Value.slice.injEq] at hv
    rw [ha] at hv
    cases hv.1
set_option maxHeartbeats 2000000 in
set_option maxRecDepth 100000 in
theorem poolRoots_any (Q : Nat → Prop) (t : TenE) (sa : Option Addr) (sn sc : Nat) (w : World) (hT : TenAt Q w t sa sn sc) (hsh : ∀ x ∈ t.sets, Shape x) (h3 : t.sets.length ≤ 3) :
    Calls Tryz.prog 66 #[t.val sa sn sc] w fun e w' => RetRo w.heap.size e w' (rootsT t) ∧ Below w.heap.size w w' := by
  obtain ⟨i0, hi, hz0, hz1, hz2⟩ := info_parts Tryz.infoInt
  unfold TenE.val
  have b0 := below_alloc w (.cells #[.int .i64 t.key, .int .i64 t.quota, .slice sa sn sc] 42)
  have k1 : CellsAt _ w.heap.size #[.int .i64 t.key, .int .i64 t.quota, .slice sa sn sc] 42 := cellsAt_alloc w _ _
  have hsl := hid hT.sets.1
  have hS := hid (hT.sets.below b0)
  replace k1 := hid k1
  have hsn : sn ≤ 3 := by rw [← hT.sets.1]; exact h3
  replace hsh := hid hsh
  clear hT h3
  go_enter Tryz.func66, Tryz.ntmps66
  go_wp2_with fail
  generalize w.alloc (.cells #[.int .i64 t.key, .int .i64 t.quota, .slice sa sn sc] 42) = w0 at *
  go_loopw [3, 9] (fun u v wr => ∃ (j k : Nat) (xs : List Int), j ≤ sn ∧ v = .int .i64 j ∧ Below w0.heap.size w0 wr ∧ k ≤ j * 24 ∧ xs = rootsL (t.sets.take j) ∧ xs.length = k ∧ (∃ a c, u = .slice a k c) ∧ wr.ownsRow w0.heap.size 3 1 u k (xs.map (Value.int .i64)) ∧ ∀ r ∈ xs, (Lit.int .i64 r).wf = true) (fun _ v _ => sn - (Go.RowKit.intOf v).toNat)
  case atStart => exact ⟨0, 0, [], Nat.zero_le _, rfl, Below.refl _ _, by omega, by simp [rootsL], rfl, ⟨_, _, rfl⟩, World.ownsRow_nil _ _ _ _, by simp⟩
  case round =>
    obtain ⟨j, k, xs, hj, rfl, hb, hk, hxs, hxl, ⟨ua, uc, rfl⟩, hown, hw⟩ := hrel
    replace hxs := hid hxs
    replace hxl := hid hxl
    replace hw := hid hw
    by_cases hlt : j < sn
    · have hjl : j < t.sets.length := by rw [hsl.out]; exact hlt
      have hE' := hS.out.below hb
      obtain ⟨eb, off, rfl⟩ : ∃ b off, sa = some ⟨b, off, none⟩ := by
        obtain ⟨b, off, e, _⟩ := hE'.2 (by omega)
        exact ⟨b, off, e⟩
      have hx : t.sets[j]? = some (t.sets.getD j SetE.zero) := by rw [List.getElem?_eq_getElem hjl]; simp [List.getD, hjl]
      obtain ⟨v, hA⟩ := hE'.set hlt
      have c0 := hA.c0
      have c1 := hA.c1
      have c2 := hA.c2
      have hXa := hA.ok
      have hShx := hid (hsh.out _ (List.mem_of_getElem? hx))
      replace hx := hid hx
      clear hA hE' hjl
      generalize t.sets.getD j SetE.zero = y at *
      replace hown := hid hown
      replace hXa := hid hXa
      go_wp2_with fail
      have ba := below_alloc wr (.cells #[.string v.name, .slice v.fa v.fn v.fc, .slice v.sa v.sn v.sc] 47)
      clear c0 c1 c2
      replace hXa := hXa.out.below ba
      replace hown := row_below hown.out ba
      replace hb := Below.tr hb ba
      clear ba
      generalize wr.alloc (.cells #[.string v.name, .slice v.fa v.fn v.fc, .slice v.sa v.sn v.sc] 47) = w5 at *
      refine (roots_any Q v y w5 hXa hShx.out.few hShx.out.fewS (fun s hs => (hShx.out.filesS s hs).1)).mono ?_
      rintro e w6 ⟨⟨ra, rc, rfl, ho6, hrw6⟩, b6⟩
      have hown6 := hid (row_below hown b6)
      obtain ⟨rn, hrn⟩ : ∃ rn, rn = (rootsX y).length := ⟨_, rfl⟩
      have h24 : rn ≤ 24 := by rw [hrn]; exact shape_len hShx.out
      obtain ⟨ra', rc', hv, hrc, hN6⟩ := numsAt_own hrw6 ho6
      simp only [Value.slice.injEq, true_and] at hv
      obtain ⟨rfl, rfl⟩ := hv
      have ho6' := ho6
      rw [← hrn] at hN6 ho6'
      simp only [← hrn]
      have hrn' := hid hrn
      have hb6 : Hid (w0.heap.size ≤ w6.heap.size) := hid (Nat.le_trans hb.size b6.size)
      replace hb := Below.tr hb b6
      replace hrw6 := hid hrw6
      replace hN6 := hid hN6
      clear hown b6 ho6 hXa hrn
      have hnone := row_none ho6'
      have hw7 : ∀ r ∈ xs ++ rootsX y, (Lit.int .i64 r).wf = true := fun r hr => by
        rcases List.mem_append.1 hr with h | h
        · exact hw.out r h
        · exact hrw6.out r h
      have hl7 : (xs ++ rootsX y).length = k + rn := by rw [List.length_append, hxl.out, hrn'.out]
      have hx7 : xs ++ rootsX y = rootsL (t.sets.take (j + 1)) := by rw [hxs.out, rootsL_take hx.out]
      obtain ⟨v', w7, hrun, hown7, hgrow⟩ := run_append_i64 w6 w0.heap.size 77 (.slice ua k uc) k _ hown6.out ra rn rc (rootsX y) (hN6.out.weaken fun _ _ _ => trivial) hnone hb6.out (by omega) (by omega)
      have b7 : Below w0.heap.size w0 w7 := hb.grown hgrow hb6.out (fun i hi => (hown6.out.lt i hi).1)
      rw [← List.map_append] at hown7
      obtain ⟨a', c', rfl⟩ : ∃ a' c', v' = .slice a' (k + rn) c' := by
        rcases hown7.2 with ⟨hv, h0⟩ | ⟨g, cap, cur, hv, _⟩
        · exact ⟨none, 0, by rw [hv, h0]⟩
        · exact ⟨_, _, hv⟩
      replace hown7 := hid hown7
      replace hw7 := hid hw7
      replace hl7 := hid hl7
      replace hx7 := hid hx7
      replace hnone := hid hnone
      clear hown6 hgrow hb ho6'
      go_wp2_with (at_builtin; refine Lib.wpList_append_run _ rfl _ _ _ _ rfl _ _ rfl rfl _ _ hrun ?_)
      go_roundw
      case rel => exact ⟨j + 1, k + rn, xs ++ rootsX y, by omega, by go_num, b7, by omega, hx7.out, hl7.out, ⟨_, _, rfl⟩, hown7.out, hw7.out⟩
      case measure => simp [Go.RowKit.intOf]; omega
    · obtain rfl : j = sn := by omega
      have e1 : t.sets.take j = t.sets := List.take_of_length_le (by rw [hsl.out]; exact Nat.le_refl _)
      have hxs' : Hid (xs = rootsT t) := hid (by rw [hxs.out, e1]; rfl)
      have J : Hid (RetRo w.heap.size (.returned (.slice ua k uc)) wr (rootsT t)) := hid (by
        rw [← hxs'.out]
        exact ⟨ua, uc, by rw [hxl.out], by rw [hxl.out]; exact ownsRow_base b0.size hown, hw.out⟩)
      clear hown
      go_wp2_with fail
      go_ret
      exact ⟨J.out, Below.tr b0 hb⟩
end Go.Proofs.YtnmcgmpmcliinaaGreat

namespace Go.Proofs.YtnmcgmpmcliinaaGreat
open Go.RowKit
theorem FileOk.rootOk {n : Nat} {B : Nat → Blk} {key r s : Int} (h : FileOk n B key r s) : r = 0 ∨ There n B r := by
  rcases h.rooted with h | h
  · exact .inl h
  · exact .inr h.1
theorem SetOk.rootsOk {n : Nat} {B : Nat → Blk} {key : Int} {x : SetE} (h : SetOk n B key x) : RootsOk n B (rootsX x) := fun r hr => by
  rw [rootsX_eq] at hr
  obtain ⟨e, he, rfl⟩ := mem_rootsE.1 hr
  exact (h.ents e he).rootOk
theorem TenOk.rootsOk {n : Nat} {B : Nat → Blk} {t : TenE} (h : TenOk n B t) : RootsOk n B (rootsT t) := fun r hr => by
  obtain ⟨x, hx, hr⟩ := List.mem_flatMap.1 hr
  exact (h.sets x hx).rootsOk r hr
def RetRe (base : Nat) (e : Ending) (w : World) (B : Nat → Blk) (R : List Int) : Prop := ∃ (a : Option Addr) (ln c : Nat) (L : List Int), e = .returned (.slice a ln c) ∧ NumsAt (fun b => base ≤ b) .i64 w a ln L ∧ Rising L ∧ ∀ x, x ∈ L ↔ Clo B R x
set_option maxHeartbeats 2000000 in
set_option maxRecDepth 100000 in
theorem poolReach_any (Q : Nat → Prop) (a : Option Addr) (n c : Nat) (B : Nat → Blk) (t : TenE) (sa : Option Addr) (sn sc : Nat) (w : World) (h : StoreAt w a n B) (hT : TenAt Q w t sa sn sc) (hR : Right n B) (hok : TenOk n B t) :
    Calls Tryz.prog 28 #[.agg #[.slice a n c], t.val sa sn sc] w fun e w' => RetRe w.heap.size e w' B (rootsT t) ∧ Below w.heap.size w w' := by
  have b0 := below_two w (.cells #[.slice a n c] 24) (.cells #[.int .i64 t.key, .int .i64 t.quota, .slice sa sn sc] 42)
  have k0 : CellsAt _ w.heap.size #[.slice a n c] 24 := (cellsAt_alloc w _ _).below (below_alloc _ (.cells #[.int .i64 t.key, .int .i64 t.quota, .slice sa sn sc] 42))
  have k1 := cellsAt_alloc2 w (.cells #[.slice a n c] 24) #[.int .i64 t.key, .int .i64 t.quota, .slice sa sn sc] 42
  replace h := hid (h.below b0)
  replace hT := hid (hT.below b0)
  have hsh := hid hok.shapes
  have h3 := hid hok.few
  have h72 := hid (rootsT_len hok)
  have hro := hid hok.rootsOk
  replace hR := hid hR
  replace hok := hid hok
  replace k0 := hid k0
  replace k1 := hid k1
  unfold TenE.val
  go_enter Tryz.func28, Tryz.ntmps28
  go_wp2_with fail
  generalize (w.alloc (.cells #[.slice a n c] 24)).alloc (.cells #[.int .i64 t.key, .int .i64 t.quota, .slice sa sn sc] 42) = w0 at *
  have s0 := k0.out.cell 0
  have x0 := k1.out.cell 0
  have x1 := k1.out.cell 1
  have x2 := k1.out.cell 2
  simp at s0 x0 x1 x2
  go_region_with (first | (go_at_call 66; refine Calls.mono (poolRoots_any Q t sa sn sc _ ?_ hsh.out h3.out) ?_; exact hT.out.below (below_drew _ _); rintro e w2 ⟨⟨ra, rc, rfl, hrow, hrw⟩, b2⟩; have b12 := hid (Below.tr (below_drew _ w0) b2); have s2 := (b12.out.cell (p := ⟨w.heap.size, 0, none⟩) k0.out.lt).trans s0; have hN2 := hid (row_nums hrow hrw); clear b2 hrow hrw) | (go_at_call 65; refine Calls.mono (storeReach_any a n c B ra _ rc (rootsT t) _ ?_ ?_ ?_) ?_; exact h.out.below b12.out; exact hN2.out.weaken (fun _ _ _ => trivial); (have := h72.out; omega); rintro e w3 ⟨hRR, b3⟩; have b13 := hid (Below.tr b12.out b3); rcases hRR with ⟨e', rfl, he, hno⟩ | ⟨_, v, L, rfl, hL, hri, hm⟩; (exact absurd ⟨hR.out, hro.out⟩ hno); obtain ⟨la, lc, rfl, _, hNL⟩ := numsAt_own hL.2 hL.1; replace hNL := hid hNL; replace hri := hid hri; replace hm := hid hm; clear hL b3))
  all_goals (clear s0 x0 x1 x2; go_wp2_with fail; go_ret; exact ⟨⟨la, _, lc, L, rfl, hNL.out.weaken (fun b _ q => by have := b0.size; have := b12.out.size; omega), hri.out, hm.out⟩, Below.tr b0 b13.out⟩)
structure SetsTo (n : Nat) (B : Nat → Blk) (key : Int) (l : List SetE) (j : Nat) : Prop where
  sets : ∀ x ∈ l.take j, SetOk n B key x
  order : (l.take j).Pairwise fun a b => a.nm < b.nm
theorem SetsTo.next {n : Nat} {B : Nat → Blk} {key : Int} {l : List SetE} {j : Nat} {x : SetE} {s : List UInt8} (h : SetsTo n B key l j) (hx : l[j]? = some x) (ha : Ahead SetE.nm l j s) (hs : SetOk n B key x) (hn : s < x.nm) : SetsTo n B key l (j + 1) := by
  refine ⟨fun y hy => ?_, order_next hx h.order ha hn⟩
  rw [take_next hx] at hy
  rcases List.mem_append.1 hy with hy | hy
  · exact h.sets y hy
  · rw [List.mem_singleton.1 hy]; exact hs
set_option maxHeartbeats 4000000 in
set_option maxRecDepth 100000 in
theorem checkTenant_any (Q : Nat → Prop) (a : Option Addr) (n c : Nat) (B : Nat → Blk) (t : TenE) (sa : Option Addr) (sn sc : Nat) (w : World) (h : StoreAt w a n B) (hT : TenAt Q w t sa sn sc) :
    Calls Tryz.prog 27 #[.agg #[.slice a n c], t.val sa sn sc] w fun e w' => RetE e (TenOk n B t) ∧ Below w.heap.size w w' := by
  unfold TenE.val
  have b0 := below_two w (.cells #[.slice a n c] 24) (.cells #[.int .i64 t.key, .int .i64 t.quota, .slice sa sn sc] 42)
  have k0 : CellsAt _ w.heap.size #[.slice a n c] 24 := (cellsAt_alloc w _ _).below (below_alloc _ (.cells #[.int .i64 t.key, .int .i64 t.quota, .slice sa sn sc] 42))
  have k1 := cellsAt_alloc2 w (.cells #[.slice a n c] 24) #[.int .i64 t.key, .int .i64 t.quota, .slice sa sn sc] 42
  have hsl := hid hT.sets.1
  replace h := hid (h.below b0)
  have hqb := hT.qb
  have hS := hid (hT.sets.below b0)
  clear hT
  replace k0 := hid k0
  replace k1 := hid k1
  obtain ⟨key, quota, sets⟩ := t
  simp only at *
  go_enter Tryz.func27, Tryz.ntmps27
  go_wp2_with fail
  generalize (w.alloc (.cells #[.slice a n c] 24)).alloc (.cells #[.int .i64 key, .int .i64 quota, .slice sa sn sc] 42) = w0 at *
  have s0 := k0.out.cell 0
  have x0 := k1.out.cell 0
  have x1 := k1.out.cell 1
  have x2 := k1.out.cell 2
  simp at s0 x0 x1 x2
  by_cases hk : keyB key 0 = true
  · have hkb := keyB_true hk
    refine (check_ok key 0 w0 hk).mono ?_
    rintro e w1 ⟨rfl, rfl⟩
    clear hk
    by_cases hq1 : quota < 0
    · go_wp2_with fail
      go_ret
      exact ⟨retE_no 3 (by omega) (fun f => by have := f.qb.1; simp only at this; omega), b0⟩
    · by_cases hq2 : 400 < quota
      · go_wp2_with fail
        go_ret
        exact ⟨retE_no 3 (by omega) (fun f => by have := f.qb.2; simp only at this; omega), b0⟩
      · by_cases h3 : (3 : Int) < (sn : Int)
        · go_wp2_with fail
          go_ret
          exact ⟨retE_no 2 (by omega) (fun f => by have := f.few; simp only at this; rw [hsl.out] at this; omega), b0⟩
        · go_wp2_with fail
          clear x1 x2
          go_loopw [6, 31] (fun u v wr => ∃ (j : Nat) (s : ByteArray), j ≤ sn ∧ v = .int .i64 j ∧ u = .string s ∧ Below w1.heap.size w1 wr ∧ Ahead SetE.nm sets j s.data.toList ∧ SetsTo n B key sets j) (fun _ v _ => sn - (Go.RowKit.intOf v).toNat)
          case atStart => exact ⟨0, ⟨#[]⟩, Nat.zero_le _, rfl, rfl, Below.refl _ _, .inl ⟨rfl, rfl⟩, by simp, by simp⟩
          case round =>
            obtain ⟨j, s, hj, rfl, rfl, hb, ha, hF⟩ := hrel
            replace ha := hid ha
            replace hF := hid hF
            by_cases hlt : j < sn
            · have hjl : j < sets.length := by rw [hsl.out]; exact hlt
              have hE' := hS.out.below hb
              obtain ⟨eb, off, rfl⟩ : ∃ b off, sa = some ⟨b, off, none⟩ := by
                obtain ⟨b, off, e, _⟩ := hE'.2 (by omega)
                exact ⟨b, off, e⟩
              have hx : sets[j]? = some (sets.getD j SetE.zero) := by rw [List.getElem?_eq_getElem hjl]; simp [List.getD, hjl]
              obtain ⟨v, hA⟩ := hE'.set hlt
              have c0 := hA.c0
              have c1 := hA.c1
              have c2 := hA.c2
              have hXa := hid hA.ok
              replace hx := hid hx
              clear hA hE' hjl
              generalize sets.getD j SetE.zero = y at *
              have x0' := (hb.cell (p := ⟨w.heap.size + 1, 0, none⟩) k1.out.lt).trans x0
              have s0' := (hb.cell (p := ⟨w.heap.size, 0, none⟩) k0.out.lt).trans s0
              have lt1 := Nat.lt_of_lt_of_le k1.out.lt hb.size
              have lt0 := Nat.lt_of_lt_of_le k0.out.lt hb.size
              have b1 := below_alloc wr (.cells #[.string v.name, .slice v.fa v.fn v.fc, .slice v.sa v.sn v.sc] 47)
              have k2 : CellsAt _ wr.heap.size #[.string v.name, .slice v.fa v.fn v.fc, .slice v.sa v.sn v.sc] 47 := cellsAt_alloc wr _ _
              have hbA := Below.tr hb b1
              have x0A := (b1.cell (p := ⟨w.heap.size + 1, 0, none⟩) lt1).trans x0'
              have s0A := (b1.cell (p := ⟨w.heap.size, 0, none⟩) lt0).trans s0'
              replace hXa := hid (hXa.out.below b1)
              replace hb := hid hb
              replace k2 := hid k2
              replace b1 := hid b1
              go_upto_region 12 with fail
              clear c0 c1 c2 x0' s0'
              generalize wr.alloc (.cells #[.string v.name, .slice v.fa v.fn v.fc, .slice v.sa v.sn v.sc] 47) = w5 at *
              have q0 := k2.out.cell 0
              have q1 := k2.out.cell 1
              have q2 := k2.out.cell 2
              simp at q0 q1 q2
              go_wp2_with fail
              refine (setCheck_any Q a n c B key v y w5 (h.out.below hbA) hXa.out).mono ?_
              rintro e w6 ⟨⟨e3, rfl, he3⟩, b6⟩
              have q3 := (b6.cell (p := ⟨wr.heap.size, 0, none⟩) k2.out.lt).trans q0
              replace he3 := hid he3
              have hb6 := hid (Below.tr hbA b6)
              have hnm := hid hXa.out.name
              clear q0 q1 q2 x0A s0A b6 hbA
              by_cases h5 : e3 = 0
              · have h5' : (e3 == 0) = true := by simp [h5]
                have hOk := hid (he3.out.1 h5)
                have hle := fun w => str_leq (P := Tryz.prog) 9 v.name s w
                by_cases hls : s.data.toList < v.name.data.toList
                · have hd : decide (s.data.toList < v.name.data.toList) = true := by simp [hls]
                  rw [hd] at hle
                  have hls' : Hid (s.data.toList < y.nm) := hid (by unfold SetE.nm; rw [← hnm.out]; exact hls)
                  clear hd hls
                  go_wp2_with fail
                  go_roundw
                  case rel => exact ⟨j + 1, v.name, by omega, by go_num, rfl, hb6.out, (by rw [hnm.out]; exact ahead_next (f := SetE.nm) hx.out), hF.out.next hx.out ha.out hOk.out hls'.out⟩
                  case measure => simp [Go.RowKit.intOf]; omega
                · have hd : decide (s.data.toList < v.name.data.toList) = false := by simp [hls]
                  rw [hd] at hle
                  have hls' : Hid (¬ s.data.toList < y.nm) := hid (by unfold SetE.nm; rw [← hnm.out]; exact hls)
                  clear hd hls
                  go_wp2_with fail
                  go_ret
                  exact ⟨retE_no 6 (by omega) (fun f => hls'.out (order_ahead (f := SetE.nm) hx.out f.order ha.out hOk.out.name.1)), Below.tr b0 hb6.out⟩
              · have h5' : (e3 == 0) = false := by simp [h5]
                go_wp2_with fail
                go_ret
                exact ⟨retE_no e3 h5 (fun f => h5 (he3.out.2 (f.sets y (List.mem_of_getElem? hx.out)))), Below.tr b0 hb6.out⟩
            · obtain rfl : j = sn := by omega
              have e1 : sets.take j = sets := List.take_of_length_le (by rw [hsl.out]; exact Nat.le_refl _)
              have hTo := hF.out
              go_wp2_with fail
              go_ret
              refine ⟨retE_yes ⟨⟨hkb.1, hkb.2.1⟩, ⟨by simp only; omega, by simp only; omega⟩, by simp only; rw [hsl.out]; omega, ?_, ?_⟩, Below.tr b0 hb⟩
              · have := hTo.sets; rwa [e1] at this
              · have := hTo.order; rwa [e1] at this
  · have hk' : keyB key 0 = false := by simpa using hk
    have hno := keyB_false hk'
    refine (check_no key 0 w0 hk').mono ?_
    rintro e w1 ⟨rfl, rfl⟩
    replace hno := hid hno
    clear hk hk'
    go_wp2_with fail
    go_ret
    exact ⟨retE_no 3 (by omega) (fun f => hno.out ⟨f.kb.1, f.kb.2, by omega, by omega⟩), b0⟩
end Go.Proofs.YtnmcgmpmcliinaaGreat

namespace Go.Proofs.YtnmcgmpmcliinaaGreat
open Go.RowKit
theorem nonZero_any (x : Int) (w : World) : Calls Tryz.prog 69 #[.int .i64 x] w fun e w' => e = .returned (.bool (!(x == 0))) ∧ w' = w := by
  go_enter Tryz.func69, Tryz.ntmps69
  go_wp2_with fail
  go_ret
  exact ⟨by first | rfl | simp [bne], rfl⟩
def RetNzP (e : Ending) (n : Nat) (f : Nat → Int) : Prop := (e = .returned (.int .i64 (-1)) ∧ ∀ k, k < n → f k = 0) ∨ (∃ i : Nat, e = .returned (.int .i64 i) ∧ i < n ∧ f i ≠ 0)
set_option maxHeartbeats 1000000 in
theorem indexNz_any (base g n : Nat) (f : Nat → Int) (w : World) (hn : n ≤ 400) (h : Row w base g n f) :
    Calls Tryz.prog 104 #[.slice (some ⟨g, 0, none⟩) n n, .func (.func 69) #[] #[]] w fun e w' => RetNzP e n f ∧ w' = w := by
  replace h := hid h
  go_enter Tryz.func104, Tryz.ntmps104
  go_wp2_with fail
  go_loopw [8] (fun v wr => ∃ i : Nat, i ≤ n ∧ v = .int .i64 i ∧ (∀ k, k < i → f k = 0) ∧ wr = w) (fun v _ => n - (Go.RowKit.intOf v).toNat)
  case atStart => exact ⟨0, Nat.zero_le _, rfl, fun k hk => absurd hk (by omega), rfl⟩
  case round =>
    obtain ⟨i, hin, rfl, hno, rfl⟩ := hrel
    replace hno := hid hno
    by_cases hlt : i < n
    · have c0 := h.out.cell hlt
      generalize hrf : f i = x at *
      replace hrf := hid hrf
      go_wp2_with fail
      refine (nonZero_any x wr).mono ?_
      rintro e w1 ⟨rfl, rfl⟩
      by_cases h0 : x = 0
      · have h0' : (x == 0) = true := by simp [h0]
        rw [h0']
        go_wp2_with fail
        go_roundw
        case rel =>
          refine ⟨i + 1, by omega, by go_num, fun k hk => ?_, trivial⟩
          rcases Nat.lt_or_ge k i with h' | h'
          · exact hno.out k h'
          · obtain rfl : k = i := by omega
            rw [hrf.out]; exact h0
        case measure => simp [Go.RowKit.intOf]; omega
      · have h0' : (x == 0) = false := by simp [h0]
        rw [h0']
        go_wp2_with fail
        go_ret
        exact ⟨.inr ⟨i, rfl, hlt, by rw [hrf.out]; exact h0⟩, rfl⟩
    · obtain rfl : i = n := by omega
      go_wp2_with fail
      go_ret
      exact ⟨.inl ⟨rfl, hno.out⟩, rfl⟩
theorem containsNz_any (base g n : Nat) (f : Nat → Int) (w : World) (hn : n ≤ 400) (h : Row w base g n f) :
    Calls Tryz.prog 68 #[.slice (some ⟨g, 0, none⟩) n n, .func (.func 69) #[] #[]] w fun e w' => (∃ t, e = .returned (.bool t) ∧ (t = false ↔ ∀ k, k < n → f k = 0)) ∧ w' = w := by
  go_enter Tryz.func68, Tryz.ntmps68
  go_wp2_with fail
  refine (indexNz_any base g n f w hn h).mono ?_
  rintro e w1 ⟨⟨rfl, hno⟩ | ⟨i, rfl, hi, hf⟩, rfl⟩
  · replace hno := hid hno
    go_wp2_with fail
    go_ret
    exact ⟨⟨_, rfl, fun _ => hno.out, fun _ => by first | rfl | simp⟩, rfl⟩
  · replace hf := hid hf
    go_wp2_with fail
    go_ret
    exact ⟨⟨true, by first | rfl | (simp; try omega), (fun e => Bool.noConfusion e), fun k => absurd (k i hi) hf.out⟩, rfl⟩
theorem rootsP_take {l : List TenE} {j : Nat} {x : TenE} (hx : l[j]? = some x) : rootsP (l.take (j + 1)) = rootsP (l.take j) ++ rootsT x := by
  unfold rootsP
  rw [take_next hx, List.flatMap_append]
  simp
theorem rootsP_len {n : Nat} {B : Nat → Blk} : ∀ {l : List TenE}, (∀ t ∈ l, TenOk n B t) → (rootsP l).length ≤ l.length * 72
  | [], _ => by simp [rootsP]
  | t :: l, h => by
    have h1 := rootsT_len (h t (by simp))
    have h2 := rootsP_len (l := l) (fun y hy => h y (by simp [hy]))
    simp only [rootsP, List.flatMap_cons, List.length_append, List.length_cons] at *
    omega
def cntP (D R : List Int) (i : Nat) (k : Nat) : Int := ((D ++ R.take i).count ((k : Int) + 1) : Int)
theorem cntP_zero (D R : List Int) (k : Nat) : cntP D R 0 k = (D.count ((k : Int) + 1) : Int) := by simp [cntP]
theorem cntP_all {D R : List Int} {i : Nat} (h : R.length ≤ i) (k : Nat) : cntP D R i k = ((D ++ R).count ((k : Int) + 1) : Int) := by simp [cntP, List.take_of_length_le h]
theorem cntP_next {D R : List Int} {i : Nat} {r : Int} (hr : R[i]? = some r) (k : Nat) : cntP D R (i + 1) k = cntP D R i k + if r = (k : Int) + 1 then 1 else 0 := by
  unfold cntP
  rw [List.count_append, List.count_append, count_next hr]
  split <;> simp <;> omega
theorem cntP_le (D R : List Int) (i k : Nat) : 0 ≤ cntP D R i k ∧ cntP D R i k ≤ (D.length : Int) + (R.length : Int) := by
  unfold cntP
  have h1 := List.count_le_length (a := (k : Int) + 1) (l := D ++ R.take i)
  have h2 : (D ++ R.take i).length ≤ D.length + R.length := by simp; omega
  omega
set_option maxHeartbeats 4000000 in
set_option maxRecDepth 100000 in
theorem poolHeld_any (Q : Nat → Prop) (a : Option Addr) (n c : Nat) (B : Nat → Blk) (ta : Option Addr) (tn tc : Nat) (l : List TenE) (w : World) (h : StoreAt w a n B) (hT : TensAt Q w ta tn l) (hR : Right n B) (h3 : l.length ≤ 3) (hok : ∀ t ∈ l, TenOk n B t) :
    Calls Tryz.prog 29 #[.agg #[.slice a n c, .slice ta tn tc]] w fun e w' => RetE e (∀ k, k < n → outs n B k = ((rootsP l).count ((k : Int) + 1) : Int)) ∧ Below w.heap.size w w' := by
  have hn := hR.small
  have b0 := below_alloc w (.cells #[.slice a n c, .slice ta tn tc] 27)
  have k0 : CellsAt _ w.heap.size #[.slice a n c, .slice ta tn tc] 27 := cellsAt_alloc w _ _
  have htl := hid hT.1
  have htn : tn ≤ 3 := by rw [← hT.1]; exact h3
  replace h := hid (h.below b0)
  replace hT := hid (hT.below b0)
  replace hR := hid hR
  replace hok := hid hok
  replace k0 := hid k0
  clear h3
  go_enter Tryz.func29, Tryz.ntmps29
  go_wp2_with fail
  generalize w.alloc (.cells #[.slice a n c, .slice ta tn tc] 27) = w0 at *
  have p0 := k0.out.cell 0
  have p1 := k0.out.cell 1
  simp at p0 p1
  refine (storeOutside_any a n c B w0 h.out).mono ?_
  rintro e w1 ⟨b1, ⟨e', rfl, he, hno⟩ | ⟨_, g, rfl, hrow⟩⟩
  · exact absurd hR.out hno
  have hg1 := hrow.lt
  replace p1 := (b1.cell (p := ⟨w.heap.size, 1, none⟩) k0.out.lt).trans p1
  replace hrow := hid hrow
  replace b1 := hid b1
  clear p0
  go_wp2_with fail
  clear p1
  go_loopw [21] (fun v wr => ∃ j : Nat, j ≤ tn ∧ v = .int .i64 j ∧ Below w0.heap.size w0 wr ∧ w1.heap.size ≤ wr.heap.size ∧ Row wr w0.heap.size g n (fun k => outs n B k - ((rootsP (l.take j)).count ((k : Int) + 1) : Int))) (fun v _ => tn - (Go.RowKit.intOf v).toNat)
  case atStart => exact ⟨0, Nat.zero_le _, rfl, b1.out, Nat.le_refl _, hrow.out.congr (fun k _ => by simp [rootsP])⟩
  case round =>
    clear hrow
    obtain ⟨j, hj, rfl, hb, hsz, hrow⟩ := hrel
    by_cases hlt : j < tn
    · have hjl : j < l.length := by rw [htl.out]; exact hlt
      have hE' := hT.out.below hb
      obtain ⟨eb, off, rfl⟩ : ∃ b off, ta = some ⟨b, off, none⟩ := by
        obtain ⟨b, off, e, _⟩ := hE'.2 (by omega)
        exact ⟨b, off, e⟩
      have hx : l[j]? = some (l.getD j TenE.zero) := by rw [List.getElem?_eq_getElem hjl]; simp [List.getD, hjl]
      obtain ⟨sa, sn, sc, hA⟩ := hE'.ten hlt
      have c0 := hA.c0
      have c1 := hA.c1
      have c2 := hA.c2
      have hTa := hA.ok
      have hTok := hid (hok.out _ (List.mem_of_getElem? hx))
      replace hx := hid hx
      clear hA hE' hjl
      generalize l.getD j TenE.zero = t at *
      replace hrow := hid hrow
      replace hTa := hid hTa
      have ba := below_alloc wr (.cells #[.int .i64 t.key, .int .i64 t.quota, .slice sa sn sc] 42)
      have k2 : CellsAt _ wr.heap.size #[.int .i64 t.key, .int .i64 t.quota, .slice sa sn sc] 42 := cellsAt_alloc wr _ _
      replace k2 := hid k2
      replace ba := hid ba
      have hbh := hid hb
      clear hb
      go_upto_region 7 with fail
      clear c0 c1 c2
      replace hTa := hid (hTa.out.below ba.out)
      replace hrow := hid (row_below hrow.out ba.out)
      have hb := hid (Below.tr hbh.out ba.out)
      have hsz5 : w1.heap.size ≤ (wr.alloc (.cells #[.int .i64 t.key, .int .i64 t.quota, .slice sa sn sc] 42)).heap.size := Nat.le_trans hsz ba.out.size
      clear ba hbh
      generalize wr.alloc (.cells #[.int .i64 t.key, .int .i64 t.quota, .slice sa sn sc] 42) = w5 at *
      have q0 := k2.out.cell 0
      have q1 := k2.out.cell 1
      have q2 := k2.out.cell 2
      simp at q0 q1 q2
      go_wp2_with fail
      refine (poolRoots_any Q t sa sn sc w5 hTa.out hTok.out.shapes hTok.out.few).mono ?_
      rintro e w6 ⟨⟨ra, rc, rfl, hro, hrw⟩, b6⟩
      have hN := hid (row_nums hro hrw)
      replace hrow := hid (row_below hrow.out b6)
      replace hb := hid (Below.tr hb.out b6)
      have hsz6 := Nat.le_trans hsz5 b6.size
      have hbd := hid hTok.out.rootBd
      have h72 := hid (rootsT_len hTok.out)
      have hD72 := hid (rootsP_len (l := l.take j) (fun t ht => hok.out t (List.mem_of_mem_take ht)))
      have hTake := hid (rootsP_take hx.out)
      have hlj : Hid ((l.take j).length ≤ 3) := hid (by rw [List.length_take]; omega)
      clear hro hrw q0 q1 q2 k2 hTa b6
      obtain ⟨rn, hrn⟩ : ∃ rn, rn = (rootsT t).length := ⟨_, rfl⟩
      rw [← hrn] at hN h72
      simp only [← hrn]
      have hrn' := hid hrn.symm
      clear hrn
      generalize rootsT t = R at *
      generalize rootsP (l.take j) = D at *
      have hDl : Hid ((D.length : Int) + (R.length : Int) ≤ 1000) := hid (by rw [hrn'.out]; have := hD72.out; have := hlj.out; have := h72.out; omega)
      have hrn72 : rn ≤ 72 := h72.out
      clear hD72 hlj h72
      go_wp2_with fail
      go_loopw [28] (fun v wr' => ∃ i : Nat, i ≤ rn ∧ v = .int .i64 i ∧ Kept g w6 wr' ∧ Row wr' w0.heap.size g n (fun k => outs n B k - cntP D R i k)) (fun v _ => rn - (Go.RowKit.intOf v).toNat)
      case atStart => exact ⟨0, Nat.zero_le _, rfl, Kept.refl _ _, (Row.congr hrow.out (fun k _ => by rw [cntP_zero]))⟩
      case round =>
        clear hrow
        obtain ⟨i, hi, rfl, hkp, hrow⟩ := hrel
        by_cases hilt : i < rn
        · have hil : i < R.length := by rw [hrn'.out]; exact hilt
          obtain ⟨kb, ko, rfl, hkb, hgk, hcc⟩ := hN.out.2.2 (by omega)
          have hck := (hkp.cell (p := ⟨kb, ko + i, none⟩) (by simp; omega)).trans (hcc i hilt)
          have hx2 : R[i]? = some (R.getD i 0) := by rw [List.getElem?_eq_getElem hil]; simp [List.getD, hil]
          have hmem := hbd.out _ (List.mem_of_getElem? hx2)
          replace hx2 := hid hx2
          clear hcc hil
          generalize R.getD i 0 = r at *
          by_cases h0 : r = 0
          · subst h0
            have hrow' : Hid (Row wr w0.heap.size g n (fun k => outs n B k - cntP D R (i + 1) k)) := hid (hrow.congr (fun k hk => by rw [cntP_next hx2.out, if_neg (by omega)]; simp))
            clear hrow
            go_wp2_with fail
            go_roundw
            case rel => exact ⟨i + 1, by omega, by go_num, hkp, hrow'.out⟩
            case measure => simp [Go.RowKit.intOf]; omega
          · obtain ⟨m, rfl⟩ : ∃ m : Nat, r = (m : Int) + 1 := ⟨(r - 1).toNat, by omega⟩
            have hmn : m < n := by omega
            have r0 := hrow.cell hmn
            have r1 := hrow.frozen m
            have hbb := (hR.out.one m hmn).bounds
            have hhd := hR.out.held m hmn
            have hob : 0 ≤ outs n B m ∧ outs n B m ≤ 1000000 := by unfold outs; simp at hhd; omega
            have hcl := cntP_le D R i m
            have hDl' := hDl.out
            have hrow' : Hid (Row (wr.setCell ⟨g, m, none⟩ (.int .i64 (outs n B m - cntP D R i m - 1))) w0.heap.size g n (fun k => outs n B k - cntP D R (i + 1) k)) := hid ((hrow.set m _).congr (fun k hk => by
              rw [cntP_next hx2.out]
              by_cases e : k = m
              · subst e; simp; omega
              · rw [if_neg e, if_neg (by omega)]; simp))
            have hkp' : Hid (Kept g w6 (wr.setCell ⟨g, m, none⟩ (.int .i64 (outs n B m - cntP D R i m - 1)))) := hid (hkp.trans (Kept.setCell (g := g) (Kept.refl _ _) (p := ⟨g, m, none⟩) rfl _))
            clear hrow hbb hhd
            generalize hd : outs n B m - cntP D R i m = d at *
            replace hd := hid hd
            have hd0 : (-1000 : Int) ≤ d := by rw [← hd.out]; omega
            have hd1 : d ≤ 1000000 := by rw [← hd.out]; omega
            clear hob hcl hDl'
            go_wp2_with fail
            go_roundw
            case rel => exact ⟨i + 1, by omega, by go_num, hkp'.out, hrow'.out⟩
            case measure => simp [Go.RowKit.intOf]; omega
        · obtain rfl : i = rn := by omega
          have hrow' : Hid (Row wr w0.heap.size g n (fun k => outs n B k - ((rootsP (l.take (j + 1))).count ((k : Int) + 1) : Int))) := hid (hrow.congr (fun k hk => by rw [cntP_all (by rw [hrn'.out]; exact Nat.le_refl _), hTake.out]))
          have hbk := hid (hb.out.trans (hkp.below hg1.1))
          have hszk : w1.heap.size ≤ wr.heap.size := by rw [hkp.size]; exact hsz6
          clear hrow
          go_wp2_with fail
          go_roundw
          case rel => exact ⟨j + 1, by omega, by go_num, hbk.out, hszk, hrow'.out⟩
          case measure => simp [Go.RowKit.intOf]; omega
    · obtain rfl : j = tn := by omega
      have e1 : l.take j = l := List.take_of_length_le (by rw [htl.out]; exact Nat.le_refl _)
      rw [e1] at hrow
      replace hrow := hid hrow
      clear e1
      go_wp2_with fail
      refine (containsNz_any w0.heap.size g n _ wr hn hrow.out).mono ?_
      rintro e w2 ⟨⟨t, rfl, ht⟩, rfl⟩
      replace ht := hid ht
      cases t
      · go_wp2_with fail
        go_ret
        exact ⟨retE_yes (fun k hk => by have := ht.out.1 (by simp) k hk; omega), Below.tr b0 hb⟩
      · go_wp2_with fail
        go_ret
        exact ⟨retE_no 7 (by omega) (fun f => by have := ht.out.2 (fun k hk => by rw [f k hk]; omega); cases this), Below.tr b0 hb⟩
end Go.Proofs.YtnmcgmpmcliinaaGreat
