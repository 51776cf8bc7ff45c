/-
  SetMem, Sets2, Sets3, SetRow in one text. Nothing here is trusted.
-/
import Derived.Test.YtihkljfcplfldaaGreatPart01
import Derived.Test.YtihkljfcplfldaaGreatPart14
import Derived.Test.YtihkljfcplfldaaGreatPart04
import Derived.Laws.OwnMore
set_option linter.unusedVariables false
namespace Go.Proofs.YtihkljfcplfldaaGreat
open Go.RowKit

/-- an entry -/
structure Ent where
  name : ByteArray
  root : Int
  size : Int
def Ent.zero : Ent := ⟨ByteArray.empty, 0, 0⟩
instance : Inhabited Ent := ⟨Ent.zero⟩
def Ent.ok (x : Ent) : Prop := x.name.size ≤ maxLen ∧ (-9223372036854775808 ≤ x.root ∧ x.root ≤ 9223372036854775807) ∧ (-9223372036854775808 ≤ x.size ∧ x.size ≤ 9223372036854775807)

/-- an entry in memory, three cells -/
structure EntAt (w : World) (b off : Nat) (x : Ent) : Prop where
  c0 : w.cell? ⟨b, off, none⟩ = some (.string x.name)
  c1 : w.cell? ⟨b, off + 1, none⟩ = some (.int .i64 x.root)
  c2 : w.cell? ⟨b, off + 2, none⟩ = some (.int .i64 x.size)
/-- what a slice of entries holds -/
def EntsAt (Q : Nat → Prop) (w : World) (a : Option Addr) (n : Nat) (l : List Ent) : Prop :=
  l.length = n ∧ (∀ x ∈ l, x.ok) ∧ (0 < n → ∃ b off, a = some ⟨b, off, none⟩ ∧ b < w.heap.size ∧ Q b ∧ ∀ i, i < n → EntAt w b (off + i * 3) (l.getD i Ent.zero))

theorem EntAt.below {w w' : World} {b off : Nat} {x : Ent} (h : EntAt w b off x) (hb : Below w.heap.size w w') : EntAt w' b off x := by
  have hlt := cell_lt h.c0
  exact ⟨(hb.cell (p := ⟨b, off, none⟩) hlt).trans h.c0, (hb.cell (p := ⟨b, off + 1, none⟩) hlt).trans h.c1, (hb.cell (p := ⟨b, off + 2, none⟩) hlt).trans h.c2⟩
theorem EntAt.kept {g : Nat} {w w' : World} {b off : Nat} {x : Ent} (h : EntAt w b off x) (hg : b ≠ g) (hk : Kept g w w') : EntAt w' b off x :=
  ⟨(hk.cell (p := ⟨b, off, none⟩) hg).trans h.c0, (hk.cell (p := ⟨b, off + 1, none⟩) hg).trans h.c1, (hk.cell (p := ⟨b, off + 2, none⟩) hg).trans h.c2⟩
theorem entsAt_nil (Q : Nat → Prop) (w : World) (a : Option Addr) : EntsAt Q w a 0 [] := ⟨rfl, by simp, fun h => absurd h (by omega)⟩
theorem EntsAt.below {Q : Nat → Prop} {w w' : World} {a : Option Addr} {n : Nat} {l : List Ent} (h : EntsAt Q w a n l) (hb : Below w.heap.size w w') : EntsAt Q w' a n l := by
  refine ⟨h.1, h.2.1, fun hn => ?_⟩
  obtain ⟨b, off, rfl, hlt, hq, hc⟩ := h.2.2 hn
  exact ⟨b, off, rfl, Nat.lt_of_lt_of_le hlt hb.size, hq, fun i hi => (hc i hi).below hb⟩
theorem EntsAt.weaken {Q R : Nat → Prop} {w : World} {a : Option Addr} {n : Nat} {l : List Ent} (h : EntsAt Q w a n l) (hq : ∀ b, b < w.heap.size → Q b → R b) : EntsAt R w a n l := by
  refine ⟨h.1, h.2.1, fun hn => ?_⟩
  obtain ⟨b, off, rfl, hlt, q, hc⟩ := h.2.2 hn
  exact ⟨b, off, rfl, hlt, hq b hlt q, hc⟩
theorem EntsAt.kept {Q : Nat → Prop} {g : Nat} {w w' : World} {a : Option Addr} {n : Nat} {l : List Ent} (h : EntsAt Q w a n l) (hq : ∀ b, Q b → b ≠ g) (hk : Kept g w w') : EntsAt Q w' a n l := by
  refine ⟨h.1, h.2.1, fun hn => ?_⟩
  obtain ⟨b, off, rfl, hlt, q, hc⟩ := h.2.2 hn
  exact ⟨b, off, rfl, by rw [hk.size]; exact hlt, q, fun i hi => (hc i hi).kept (hq b q) hk⟩
theorem EntsAt.getD {Q : Nat → Prop} {w : World} {a : Option Addr} {n : Nat} {l : List Ent} (h : EntsAt Q w a n l) {i : Nat} (hi : i < n) : l.getD i Ent.zero ∈ l := by
  have hl : i < l.length := by rw [h.1]; exact hi
  have e : l.getD i Ent.zero = l[i] := by simp [List.getD, hl]
  rw [e]
  exact List.getElem_mem hl
theorem EntsAt.ent {Q : Nat → Prop} {w : World} {b off n : Nat} {l : List Ent} (h : EntsAt Q w (some ⟨b, off, none⟩) n l) {i : Nat} (hi : i < n) : EntAt w b (off + i * 3) (l.getD i Ent.zero) := by
  obtain ⟨b', off', e, _, _, hc⟩ := h.2.2 (by omega)
  simp only [Option.some.injEq, Addr.mk.injEq, and_true] at e
  obtain ⟨rfl, rfl⟩ := e
  exact hc i hi

/-- a snap -/
structure SnapE where
  name : ByteArray
  files : List Ent
def SnapE.zero : SnapE := ⟨ByteArray.empty, []⟩
instance : Inhabited SnapE := ⟨SnapE.zero⟩
/-- a snap in memory, two cells -/
structure SnapAt (Q : Nat → Prop) (w : World) (b off : Nat) (x : SnapE) (fa : Option Addr) (fn fc : Nat) : Prop where
  c0 : w.cell? ⟨b, off, none⟩ = some (.string x.name)
  c1 : w.cell? ⟨b, off + 1, none⟩ = some (.slice fa fn fc)
  files : EntsAt Q w fa fn x.files
  small : x.name.size ≤ maxLen
  caps : fn ≤ fc
/-- what a slice of snaps holds -/
def SnapsAt (Q : Nat → Prop) (w : World) (a : Option Addr) (n : Nat) (l : List SnapE) : Prop :=
  l.length = n ∧ (0 < n → ∃ b off, a = some ⟨b, off, none⟩ ∧ b < w.heap.size ∧ Q b ∧ ∀ i, i < n → ∃ fa fn fc, SnapAt Q w b (off + i * 2) (l.getD i SnapE.zero) fa fn fc)
theorem SnapAt.below {Q : Nat → Prop} {w w' : World} {b off : Nat} {x : SnapE} {fa : Option Addr} {fn fc : Nat} (h : SnapAt Q w b off x fa fn fc) (hb : Below w.heap.size w w') : SnapAt Q w' b off x fa fn fc := by
  have hlt := cell_lt h.c0
  exact ⟨(hb.cell (p := ⟨b, off, none⟩) hlt).trans h.c0, (hb.cell (p := ⟨b, off + 1, none⟩) hlt).trans h.c1, h.files.below hb, h.small, h.caps⟩
theorem SnapAt.kept {Q : Nat → Prop} {g : Nat} {w w' : World} {b off : Nat} {x : SnapE} {fa : Option Addr} {fn fc : Nat} (h : SnapAt Q w b off x fa fn fc) (hg : b ≠ g) (hq : ∀ b, Q b → b ≠ g) (hk : Kept g w w') : SnapAt Q w' b off x fa fn fc :=
  ⟨(hk.cell (p := ⟨b, off, none⟩) hg).trans h.c0, (hk.cell (p := ⟨b, off + 1, none⟩) hg).trans h.c1, h.files.kept hq hk, h.small, h.caps⟩
theorem SnapAt.weaken {Q R : Nat → Prop} {w : World} {b off : Nat} {x : SnapE} {fa : Option Addr} {fn fc : Nat} (h : SnapAt Q w b off x fa fn fc) (hq : ∀ b, b < w.heap.size → Q b → R b) : SnapAt R w b off x fa fn fc :=
  ⟨h.c0, h.c1, h.files.weaken hq, h.small, h.caps⟩
theorem snapsAt_nil (Q : Nat → Prop) (w : World) (a : Option Addr) : SnapsAt Q w a 0 [] := ⟨rfl, fun h => absurd h (by omega)⟩
theorem SnapsAt.below {Q : Nat → Prop} {w w' : World} {a : Option Addr} {n : Nat} {l : List SnapE} (h : SnapsAt Q w a n l) (hb : Below w.heap.size w w') : SnapsAt Q w' a n l := by
  refine ⟨h.1, fun hn => ?_⟩
  obtain ⟨b, off, rfl, hlt, hq, hc⟩ := h.2 hn
  refine ⟨b, off, rfl, Nat.lt_of_lt_of_le hlt hb.size, hq, fun i hi => ?_⟩
  obtain ⟨fa, fn, fc, hs⟩ := hc i hi
  exact ⟨fa, fn, fc, hs.below hb⟩
theorem SnapsAt.weaken {Q R : Nat → Prop} {w : World} {a : Option Addr} {n : Nat} {l : List SnapE} (h : SnapsAt Q w a n l) (hq : ∀ b, b < w.heap.size → Q b → R b) : SnapsAt R w a n l := by
  refine ⟨h.1, fun hn => ?_⟩
  obtain ⟨b, off, rfl, hlt, q, hc⟩ := h.2 hn
  refine ⟨b, off, rfl, hlt, hq b hlt q, fun i hi => ?_⟩
  obtain ⟨fa, fn, fc, hs⟩ := hc i hi
  exact ⟨fa, fn, fc, hs.weaken hq⟩
theorem SnapsAt.kept {Q : Nat → Prop} {g : Nat} {w w' : World} {a : Option Addr} {n : Nat} {l : List SnapE} (h : SnapsAt Q w a n l) (hq : ∀ b, Q b → b ≠ g) (hk : Kept g w w') : SnapsAt Q w' a n l := by
  refine ⟨h.1, fun hn => ?_⟩
  obtain ⟨b, off, rfl, hlt, q, hc⟩ := h.2 hn
  refine ⟨b, off, rfl, by rw [hk.size]; exact hlt, q, fun i hi => ?_⟩
  obtain ⟨fa, fn, fc, hs⟩ := hc i hi
  exact ⟨fa, fn, fc, hs.kept (hq b q) hq hk⟩
theorem SnapsAt.snap {Q : Nat → Prop} {w : World} {b off n : Nat} {l : List SnapE} (h : SnapsAt Q w (some ⟨b, off, none⟩) n l) {i : Nat} (hi : i < n) : ∃ fa fn fc, SnapAt Q w b (off + i * 2) (l.getD i SnapE.zero) fa fn fc := by
  obtain ⟨b', off', e, _, _, hc⟩ := h.2 (by omega)
  simp only [Option.some.injEq, Addr.mk.injEq, and_true] at e
  obtain ⟨rfl, rfl⟩ := e
  exact hc i hi

/-- a set -/
structure SetE where
  name : ByteArray
  files : List Ent
  snaps : List SnapE
/-- a set's value: its name, where its lists lie -/
structure SetV where
  name : ByteArray
  fa : Option Addr
  fn : Nat
  fc : Nat
  sa : Option Addr
  sn : Nat
  sc : Nat
def SetV.val (v : SetV) : Value := .agg #[.string v.name, .slice v.fa v.fn v.fc, .slice v.sa v.sn v.sc]
/-- what a set's value holds -/
structure SetAt (Q : Nat → Prop) (w : World) (v : SetV) (x : SetE) : Prop where
  name : v.name = x.name
  small : x.name.size ≤ maxLen
  files : EntsAt Q w v.fa v.fn x.files
  snaps : SnapsAt Q w v.sa v.sn x.snaps
  caps : v.fn ≤ v.fc ∧ v.sn ≤ v.sc
theorem SetAt.below {Q : Nat → Prop} {w w' : World} {v : SetV} {x : SetE} (h : SetAt Q w v x) (hb : Below w.heap.size w w') : SetAt Q w' v x := ⟨h.name, h.small, h.files.below hb, h.snaps.below hb, h.caps⟩
theorem SetAt.kept {Q : Nat → Prop} {g : Nat} {w w' : World} {v : SetV} {x : SetE} (h : SetAt Q w v x) (hq : ∀ b, Q b → b ≠ g) (hk : Kept g w w') : SetAt Q w' v x := ⟨h.name, h.small, h.files.kept hq hk, h.snaps.kept hq hk, h.caps⟩
theorem SetAt.weaken {Q R : Nat → Prop} {w : World} {v : SetV} {x : SetE} (h : SetAt Q w v x) (hq : ∀ b, b < w.heap.size → Q b → R b) : SetAt R w v x := ⟨h.name, h.small, h.files.weaken hq, h.snaps.weaken hq, h.caps⟩

/-- an ask -/
structure AskE where
  kind : Int
  set : ByteArray
  file : ByteArray
  to : ByteArray
  pos : Int
  num : Int
  bytes : List Int
def AskE.zero : AskE := ⟨0, ByteArray.empty, ByteArray.empty, ByteArray.empty, 0, 0, []⟩
instance : Inhabited AskE := ⟨AskE.zero⟩
def AskE.ok (x : AskE) : Prop := (x.set.size ≤ maxLen ∧ x.file.size ≤ maxLen ∧ x.to.size ≤ maxLen) ∧ (-9223372036854775808 ≤ x.kind ∧ x.kind ≤ 9223372036854775807) ∧ (-9223372036854775808 ≤ x.pos ∧ x.pos ≤ 9223372036854775807) ∧ (-9223372036854775808 ≤ x.num ∧ x.num ≤ 9223372036854775807)
/-- an ask's value -/
def AskE.val (x : AskE) (ba : Option Addr) (bn bc : Nat) : Value := .agg #[.int .i64 x.kind, .string x.set, .string x.file, .string x.to, .int .i64 x.pos, .int .i64 x.num, .slice ba bn bc]
/-- an ask in memory, seven cells -/
structure AskAt (w : World) (b off : Nat) (x : AskE) (ba : Option Addr) (bn bc : Nat) : Prop where
  c0 : w.cell? ⟨b, off, none⟩ = some (.int .i64 x.kind)
  c1 : w.cell? ⟨b, off + 1, none⟩ = some (.string x.set)
  c2 : w.cell? ⟨b, off + 2, none⟩ = some (.string x.file)
  c3 : w.cell? ⟨b, off + 3, none⟩ = some (.string x.to)
  c4 : w.cell? ⟨b, off + 4, none⟩ = some (.int .i64 x.pos)
  c5 : w.cell? ⟨b, off + 5, none⟩ = some (.int .i64 x.num)
  c6 : w.cell? ⟨b, off + 6, none⟩ = some (.slice ba bn bc)
  bytes : NumsAt (fun _ => True) .u8 w ba bn x.bytes
  ok : x.ok
  caps : bn ≤ bc
theorem AskAt.below {w w' : World} {b off : Nat} {x : AskE} {ba : Option Addr} {bn bc : Nat} (h : AskAt w b off x ba bn bc) (hb : Below w.heap.size w w') : AskAt w' b off x ba bn bc := by
  have hlt := cell_lt h.c0
  exact ⟨(hb.cell (p := ⟨b, off, none⟩) hlt).trans h.c0, (hb.cell (p := ⟨b, off + 1, none⟩) hlt).trans h.c1, (hb.cell (p := ⟨b, off + 2, none⟩) hlt).trans h.c2, (hb.cell (p := ⟨b, off + 3, none⟩) hlt).trans h.c3, (hb.cell (p := ⟨b, off + 4, none⟩) hlt).trans h.c4, (hb.cell (p := ⟨b, off + 5, none⟩) hlt).trans h.c5, (hb.cell (p := ⟨b, off + 6, none⟩) hlt).trans h.c6, h.bytes.below hb, h.ok, h.caps⟩
/-- what a slice of asks holds -/
def AsksAt (w : World) (a : Option Addr) (n : Nat) (l : List AskE) : Prop :=
  l.length = n ∧ (0 < n → ∃ b off, a = some ⟨b, off, none⟩ ∧ b < w.heap.size ∧ ∀ i, i < n → ∃ ba bn bc, AskAt w b (off + i * 7) (l.getD i AskE.zero) ba bn bc)
theorem AsksAt.below {w w' : World} {a : Option Addr} {n : Nat} {l : List AskE} (h : AsksAt w a n l) (hb : Below w.heap.size w w') : AsksAt w' a n l := by
  refine ⟨h.1, fun hn => ?_⟩
  obtain ⟨b, off, rfl, hlt, hc⟩ := h.2 hn
  refine ⟨b, off, rfl, Nat.lt_of_lt_of_le hlt hb.size, fun i hi => ?_⟩
  obtain ⟨ba, bn, bc, hs⟩ := hc i hi
  exact ⟨ba, bn, bc, hs.below hb⟩
end Go.Proofs.YtihkljfcplfldaaGreat

namespace Go.Proofs.YtihkljfcplfldaaGreat

/-- a name's letters -/
def Ent.nm (x : Ent) : List UInt8 := x.name.data.toList
def SnapE.nm (x : SnapE) : List UInt8 := x.name.data.toList
/-- is it a name? -/
def isLetter (c : UInt8) : Prop := (97 ≤ c ∧ c ≤ 122) ∨ (48 ≤ c ∧ c ≤ 57)
def IsName (s : ByteArray) : Prop := 1 ≤ s.data.toList.length ∧ s.data.toList.length ≤ 8 ∧ ∀ c ∈ s.data.toList, isLetter c

theorem bytes_eq {a b : ByteArray} (h : a.data.toList = b.data.toList) : a = b := by
  cases a; cases b
  simp only [ByteArray.mk.injEq]
  exact Array.toList_inj.1 h

/-- in the order of their names -/
def InOrder (l : List Ent) : Prop := l.Pairwise fun a b => a.nm < b.nm
def SnapsInOrder (l : List SnapE) : Prop := l.Pairwise fun a b => a.nm < b.nm

theorem ordered_ext {α : Type} (f : α → List UInt8) : ∀ {l m : List α}, l.Pairwise (fun a b => f a < f b) → m.Pairwise (fun a b => f a < f b) → (∀ x, x ∈ l ↔ x ∈ m) → l = m
  | [], [], _, _, _ => rfl
  | [], y :: m, _, _, h => absurd ((h y).2 (by simp)) (by simp)
  | x :: l, [], _, _, h => absurd ((h x).1 (by simp)) (by simp)
  | x :: l, y :: m, hl, hm, h => by
    rw [List.pairwise_cons] at hl hm
    have hxy : x = y := by
      have h1 := (h x).1 (by simp)
      have h2 := (h y).2 (by simp)
      rcases List.mem_cons.1 h1 with e | h1
      · exact e
      rcases List.mem_cons.1 h2 with e | h2
      · exact e.symm
      exact absurd (hl.1 y h2) (List.lt_asymm (hm.1 x h1))
    subst hxy
    have hx1 : ∀ z ∈ l, z ≠ x := fun z hz e => by subst e; exact absurd (hl.1 z hz) (List.lt_irrefl _)
    have hx2 : ∀ z ∈ m, z ≠ x := fun z hz e => by subst e; exact absurd (hm.1 z hz) (List.lt_irrefl _)
    rw [ordered_ext f hl.2 hm.2 fun z => ?_]
    constructor
    · intro hz
      exact (List.mem_cons.1 ((h z).1 (List.mem_cons_of_mem _ hz))).resolve_left (hx1 z hz)
    · intro hz
      exact (List.mem_cons.1 ((h z).2 (List.mem_cons_of_mem _ hz))).resolve_left (hx2 z hz)
theorem ordered_one {α : Type} (f : α → List UInt8) {l : List α} (h : l.Pairwise fun a b => f a < f b) {x y : α} (hx : x ∈ l) (hy : y ∈ l) (e : f x = f y) : x = y := by
  induction l with
  | nil => simp at hx
  | cons z l ih =>
    rw [List.pairwise_cons] at h
    rcases List.mem_cons.1 hx with e1 | h1
    · rcases List.mem_cons.1 hy with e2 | h2
      · rw [e1, e2]
      · have := h.1 y h2
        rw [← e1, e] at this
        exact absurd this (List.lt_irrefl _)
    · rcases List.mem_cons.1 hy with e2 | h2
      · have := h.1 x h1
        rw [← e2, e] at this
        exact absurd this (List.lt_irrefl _)
      · exact ih h.2 h1 h2

/-- roots -/
def rootsE (l : List Ent) : List Int := l.map (·.root)
def rootsS (l : List SnapE) : List Int := l.flatMap fun s => rootsE s.files
def rootsX (x : SetE) : List Int := rootsE x.files ++ rootsS x.snaps
theorem rootsE_append (l m : List Ent) : rootsE (l ++ m) = rootsE l ++ rootsE m := List.map_append
theorem rootsS_append (l m : List SnapE) : rootsS (l ++ m) = rootsS l ++ rootsS m := List.flatMap_append
theorem mem_rootsE {l : List Ent} {x : Int} : x ∈ rootsE l ↔ ∃ f ∈ l, f.root = x := by simp [rootsE]

/-- right entries -/
structure FilesOk (n : Nat) (B : Nat → Blk) (key : Int) (l : List Ent) : Prop where
  few : l.length ≤ 6
  names : ∀ x ∈ l, IsName x.name
  order : InOrder l
  files : ∀ x ∈ l, FileOk n B key x.root x.size
/-- a right set -/
structure SetOk (n : Nat) (B : Nat → Blk) (key : Int) (x : SetE) : Prop where
  kb : 0 ≤ key ∧ key ≤ 1000
  right : Right n B
  name : IsName x.name
  files : FilesOk n B key x.files
  fewS : x.snaps.length ≤ 3
  namesS : ∀ s ∈ x.snaps, IsName s.name
  orderS : SnapsInOrder x.snaps
  filesS : ∀ s ∈ x.snaps, FilesOk n B key s.files

theorem FilesOk.stays {n : Nat} {B C : Nat → Blk} {key : Int} {l : List Ent} {L : List Int} (h : FilesOk n B key l) (hC : Right n C) (hs : Stays n B C L) (hl : ∀ x ∈ l, x.root ∈ L) : FilesOk n C key l :=
  ⟨h.few, h.names, h.order, fun x hx => ((h.files x hx).stays hC hs (hl x hx)).1⟩
theorem FileOk.rootBd {n : Nat} {B : Nat → Blk} {key r s : Int} (h : FileOk n B key r s) : r = 0 ∨ (1 ≤ r ∧ r ≤ n) := by
  rcases h.rooted with h0 | ⟨⟨h1, h2, _⟩, _⟩
  · exact .inl h0
  · exact .inr ⟨h1, h2⟩
theorem SetOk.rootBd {n : Nat} {B : Nat → Blk} {key : Int} {x : SetE} (h : SetOk n B key x) : ∀ r ∈ rootsX x, r = 0 ∨ (1 ≤ r ∧ r ≤ n) := fun r hr => by
  rcases List.mem_append.1 hr with hr | hr
  · obtain ⟨f, hf, rfl⟩ := mem_rootsE.1 hr
    exact (h.files.files f hf).rootBd
  · obtain ⟨s, hs, hr⟩ := List.mem_flatMap.1 hr
    obtain ⟨f, hf, rfl⟩ := mem_rootsE.1 hr
    exact ((h.filesS s hs).files f hf).rootBd
end Go.Proofs.YtihkljfcplfldaaGreat

namespace Go.Proofs.YtihkljfcplfldaaGreat

/-- all entries of a set, the snaps' too -/
def entsX (x : SetE) : List Ent := x.files ++ x.snaps.flatMap (·.files)
theorem rootsX_eq (x : SetE) : rootsX x = rootsE (entsX x) := by
  unfold rootsX entsX rootsS
  rw [rootsE_append]
  congr 1
  unfold rootsE
  rw [List.map_flatMap]
theorem SetOk.ents {n : Nat} {B : Nat → Blk} {key : Int} {x : SetE} (h : SetOk n B key x) : ∀ e ∈ entsX x, FileOk n B key e.root e.size := fun e he => by
  rcases List.mem_append.1 he with he | he
  · exact h.files.files e he
  · obtain ⟨s, hs, he⟩ := List.mem_flatMap.1 he
    exact (h.filesS s hs).files e he
/-- a set's names and orders, all but its files -/
structure Shape (x : SetE) : Prop where
  name : IsName x.name
  few : x.files.length ≤ 6
  names : ∀ e ∈ x.files, IsName e.name
  order : InOrder x.files
  fewS : x.snaps.length ≤ 3
  namesS : ∀ s ∈ x.snaps, IsName s.name
  orderS : SnapsInOrder x.snaps
  filesS : ∀ s ∈ x.snaps, s.files.length ≤ 6 ∧ (∀ e ∈ s.files, IsName e.name) ∧ InOrder s.files
theorem SetOk.shape {n : Nat} {B : Nat → Blk} {key : Int} {x : SetE} (h : SetOk n B key x) : Shape x :=
  ⟨h.name, h.files.few, h.files.names, h.files.order, h.fewS, h.namesS, h.orderS, fun s hs => ⟨(h.filesS s hs).few, (h.filesS s hs).names, (h.filesS s hs).order⟩⟩
theorem setOk_of {n : Nat} {B : Nat → Blk} {key : Int} {x : SetE} (hk : 0 ≤ key ∧ key ≤ 1000) (hB : Right n B) (h : Shape x) (hf : ∀ e ∈ entsX x, FileOk n B key e.root e.size) : SetOk n B key x :=
  ⟨hk, hB, h.name, ⟨h.few, h.names, h.order, fun e he => hf e (List.mem_append_left _ he)⟩, h.fewS, h.namesS, h.orderS, fun s hs => ⟨(h.filesS s hs).1, (h.filesS s hs).2.1, (h.filesS s hs).2.2, fun e he => hf e (List.mem_append_right _ (List.mem_flatMap.2 ⟨s, hs, he⟩))⟩⟩
theorem SetOk.bytes {n : Nat} {B C : Nat → Blk} {key : Int} {x : SetE} (h : SetOk n B key x) {L : List Int} (hC : Right n C) (hs : Stays n B C L) (hl : ∀ r ∈ rootsX x, r ∈ L) : SetOk n C key x ∧ ∀ e ∈ entsX x, fileL key (leafAt C 3 e.root) = fileL key (leafAt B 3 e.root) := by
  have hm : ∀ e ∈ entsX x, e.root ∈ L := fun e he => hl _ (by rw [rootsX_eq]; exact mem_rootsE.2 ⟨e, he, rfl⟩)
  exact ⟨setOk_of h.kb hC h.shape fun e he => ((h.ents e he).stays hC hs (hm e he)).1, fun e he => ((h.ents e he).stays hC hs (hm e he)).2⟩

/-- what is left of a right set when roots were held besides and others let go -/
structure After (n : Nat) (key : Int) (B D : Nat → Blk) (x y : SetE) : Prop where
  ok : SetOk n D key y
  held : HeldR n D (rootsX y)
  moved : Moved n B D (rootsX x) (rootsX y)
  same : ∀ e ∈ entsX x, e ∈ entsX y → fileL key (leafAt D 3 e.root) = fileL key (leafAt B 3 e.root)
theorem after_refl {n : Nat} {key : Int} {B : Nat → Blk} {x : SetE} (h : SetOk n B key x) (hh : HeldR n B (rootsX x)) : After n key B B x x := ⟨h, hh, moved_refl h.right, fun _ _ _ => rfl⟩
theorem after_of {n : Nat} {key : Int} {B C D : Nat → Blk} {x y : SetE} {K T : List Int} (hx : SetOk n B key x) (hh : HeldR n B (rootsX x)) (hg : Grow n B C K) (hD : Right n D) (hF : Fell n C D T)
    (hc : ∀ r : Int, r ≠ 0 → (rootsX y).count r + T.count r = (rootsX x).count r + K.count r) (hy : Shape y) (hf : ∀ e ∈ entsX y, FileOk n C key e.root e.size) : After n key B D x y ∧ ∀ e ∈ entsX y, fileL key (leafAt D 3 e.root) = fileL key (leafAt C 3 e.root) := by
  obtain ⟨hm, hst⟩ := moved_of hx.right hh hg hD hF hc
  have hhd := hm.held hh
  have hb : ∀ r ∈ rootsX y, r = 0 ∨ (1 ≤ r ∧ r ≤ n) := fun r hr => by
    rw [rootsX_eq] at hr
    obtain ⟨e, he, rfl⟩ := mem_rootsE.1 hr
    exact (hf e he).rootBd
  have hro : RootsOk n D (rootsX y) := held_roots hhd (fun _ h => h) hb
  have hs := stays_fell hD hF hro
  have hfd := fun e (he : e ∈ entsX y) => (hf e he).stays hD hs (by rw [rootsX_eq]; exact mem_rootsE.2 ⟨e, he, rfl⟩)
  refine ⟨⟨setOk_of hx.kb hD hy fun e he => (hfd e he).1, hhd, hm, fun e he he' => ?_⟩, fun e he => (hfd e he).2⟩
  rw [(hfd e he').2]
  exact ((hx.ents e he).ext hg.ext hg.right).2
/-- entries that were there are right files still where roots are held besides -/
theorem grow_files {n : Nat} {key : Int} {B C : Nat → Blk} {x : SetE} {K : List Int} (hx : SetOk n B key x) (hg : Grow n B C K) : ∀ e ∈ entsX x, FileOk n C key e.root e.size := fun e he => ((hx.ents e he).ext hg.ext hg.right).1

/-- lists in order -/
theorem ordered_insert {α : Type} {f : α → List UInt8} {l : List α} (h : l.Pairwise fun a b => f a < f b) {p : Nat} {x : α} (h1 : ∀ y ∈ l.take p, f y < f x) (h2 : ∀ y ∈ l.drop p, f x < f y) : (l.take p ++ x :: l.drop p).Pairwise fun a b => f a < f b := by
  rw [List.pairwise_append, List.pairwise_cons]
  refine ⟨h.sublist (List.take_sublist _ _), ⟨h2, h.sublist (List.drop_sublist _ _)⟩, fun a ha b hb => ?_⟩
  rcases List.mem_cons.1 hb with rfl | hb
  · exact h1 a ha
  · exact List.lt_trans (h1 a ha) (h2 b hb)
theorem ordered_erase {α : Type} {f : α → List UInt8} {l : List α} (h : l.Pairwise fun a b => f a < f b) (p : Nat) : (l.eraseIdx p).Pairwise fun a b => f a < f b := h.sublist (List.eraseIdx_sublist _ _)
theorem ordered_set {α : Type} {f : α → List UInt8} {l : List α} (h : l.Pairwise fun a b => f a < f b) {p : Nat} (hp : p < l.length) {x : α} (e : f x = f l[p]) : (l.set p x).Pairwise fun a b => f a < f b := by
  rw [List.pairwise_iff_getElem] at h ⊢
  intro i j hi hj hij
  simp only [List.length_set] at hi hj
  have := h i j hi hj hij
  simp only [List.getElem_set]
  by_cases e1 : p = i
  · subst e1
    rw [if_pos rfl, if_neg (by omega), e]
    exact this
  · rw [if_neg e1]
    by_cases e2 : p = j
    · subst e2; rw [if_pos rfl, e]; exact this
    · rw [if_neg e2]; exact this
theorem count_insert {l : List Ent} (p : Nat) (x : Ent) (r : Int) : (rootsE (l.take p ++ x :: l.drop p)).count r = (rootsE l).count r + [x.root].count r := by
  have e : rootsE l = rootsE (l.take p) ++ rootsE (l.drop p) := by rw [← rootsE_append, List.take_append_drop]
  rw [e, rootsE_append]
  show (rootsE (l.take p) ++ x.root :: rootsE (l.drop p)).count r = _
  simp only [List.count_append, List.count_cons, List.count_nil]
  omega
theorem count_erase {l : List Ent} {p : Nat} (hp : p < l.length) (r : Int) : (rootsE (l.eraseIdx p)).count r + [(l[p]).root].count r = (rootsE l).count r := by
  have e : l = l.take p ++ l[p] :: l.drop (p + 1) := by rw [List.getElem_cons_drop, List.take_append_drop]
  have e2 : rootsE l = rootsE (l.take p) ++ (l[p].root :: rootsE (l.drop (p + 1))) := by
    conv => lhs; rw [e]
    rw [rootsE_append]; rfl
  rw [List.eraseIdx_eq_take_drop_succ, rootsE_append, e2]
  simp only [List.count_append, List.count_cons, List.count_nil]
  omega
theorem count_set {l : List Ent} {p : Nat} (hp : p < l.length) (x : Ent) (r : Int) : (rootsE (l.set p x)).count r + [(l[p]).root].count r = (rootsE l).count r + [x.root].count r := by
  have e : l = l.take p ++ l[p] :: l.drop (p + 1) := by rw [List.getElem_cons_drop, List.take_append_drop]
  have e2 : rootsE l = rootsE (l.take p) ++ (l[p].root :: rootsE (l.drop (p + 1))) := by
    conv => lhs; rw [e]
    rw [rootsE_append]; rfl
  rw [List.set_eq_take_append_cons_drop, if_pos hp, rootsE_append, e2]
  show (rootsE (l.take p) ++ x.root :: rootsE (l.drop (p + 1))).count r + _ = _
  simp only [List.count_append, List.count_cons, List.count_nil]
  omega
end Go.Proofs.YtihkljfcplfldaaGreat

namespace Go.Proofs.YtihkljfcplfldaaGreat
open Go.RowKit

section
variable {α β : Type} {f : α → List β} {k : Nat}
theorem flat_len (hk : ∀ x, (f x).length = k) : ∀ l : List α, (l.flatMap f).length = l.length * k
  | [] => by simp
  | x :: l => by
    rw [List.flatMap_cons, List.length_append, hk, flat_len hk l, List.length_cons, Nat.add_mul, Nat.one_mul, Nat.add_comm]
theorem flat_take (hk : ∀ x, (f x).length = k) : ∀ (l : List α) (i : Nat), (l.flatMap f).take (i * k) = (l.take i).flatMap f
  | [], i => by simp
  | x :: l, 0 => by simp
  | x :: l, i + 1 => by
    rw [List.flatMap_cons, List.take_succ_cons, List.flatMap_cons, ← flat_take hk l i, Nat.add_mul, Nat.one_mul, Nat.add_comm, List.take_append, hk]
    rw [List.take_of_length_le (by rw [hk]; omega)]
    congr 2
    omega
theorem flat_drop (hk : ∀ x, (f x).length = k) : ∀ (l : List α) (i : Nat), (l.flatMap f).drop (i * k) = (l.drop i).flatMap f
  | [], i => by simp
  | x :: l, 0 => by simp
  | x :: l, i + 1 => by
    rw [List.flatMap_cons, List.drop_succ_cons, ← flat_drop hk l i, Nat.add_mul, Nat.one_mul, Nat.add_comm, List.drop_append, hk]
    rw [List.drop_of_length_le (by rw [hk]; omega)]
    rw [List.nil_append]
    congr 1
    omega
theorem flat_get (hk : ∀ x, (f x).length = k) : ∀ (l : List α) (i r : Nat) (hi : i < l.length), r < k → (l.flatMap f)[i * k + r]? = (f l[i])[r]?
  | [], i, r, hi, _ => absurd hi (by simp)
  | x :: l, 0, r, hi, hr => by
    rw [List.flatMap_cons, Nat.zero_mul, Nat.zero_add, List.getElem?_append_left (by rw [hk]; exact hr)]
    rfl
  | x :: l, i + 1, r, hi, hr => by
    rw [List.flatMap_cons, List.getElem?_append_right (by rw [hk, Nat.add_mul]; omega), hk]
    have := flat_get hk l i r (by simpa using hi) hr
    rw [show (i + 1) * k + r - k = i * k + r by rw [Nat.add_mul]; omega, this]
    rfl
theorem flat_insert (l : List α) (i : Nat) (x : α) : (l.take i ++ x :: l.drop i).flatMap f = (l.take i).flatMap f ++ (f x ++ (l.drop i).flatMap f) := by
  rw [List.flatMap_append, List.flatMap_cons]
theorem flat_erase (l : List α) (i : Nat) : (l.eraseIdx i).flatMap f = (l.take i).flatMap f ++ (l.drop (i + 1)).flatMap f := by
  rw [List.eraseIdx_eq_take_drop_succ, List.flatMap_append]
end

/-- the cells of an entry -/
def Ent.cells (e : Ent) : List Value := [.string e.name, .int .i64 e.root, .int .i64 e.size]
theorem Ent.cells_len (e : Ent) : e.cells.length = 3 := rfl
theorem Ent.cells_one (e : Ent) : ∀ v ∈ e.cells, v.oneCell' = true := by
  intro v hv
  simp only [Ent.cells, List.mem_cons, List.not_mem_nil, or_false] at hv
  rcases hv with rfl | rfl | rfl <;> rfl
def entCells (l : List Ent) : List Value := l.flatMap Ent.cells
theorem entCells_len (l : List Ent) : (entCells l).length = l.length * 3 := flat_len Ent.cells_len l
theorem entCells_one (l : List Ent) : ∀ v ∈ entCells l, v.oneCell' = true := fun v hv => by
  obtain ⟨e, _, h⟩ := List.mem_flatMap.1 hv
  exact e.cells_one v h

/-- a snap, and where its files lie -/
structure SnapM where
  e : SnapE
  fa : Option Addr
  fn : Nat
  fc : Nat
def SnapM.cells (m : SnapM) : List Value := [.string m.e.name, .slice m.fa m.fn m.fc]
theorem SnapM.cells_len (m : SnapM) : m.cells.length = 2 := rfl
theorem SnapM.cells_one (m : SnapM) : ∀ v ∈ m.cells, v.oneCell' = true := by
  intro v hv
  simp only [SnapM.cells, List.mem_cons, List.not_mem_nil, or_false] at hv
  rcases hv with rfl | rfl <;> rfl
def snapCells (l : List SnapM) : List Value := l.flatMap SnapM.cells
theorem snapCells_len (l : List SnapM) : (snapCells l).length = l.length * 2 := flat_len SnapM.cells_len l
theorem snapCells_one (l : List SnapM) : ∀ v ∈ snapCells l, v.oneCell' = true := fun v hv => by
  obtain ⟨e, _, h⟩ := List.mem_flatMap.1 hv
  exact e.cells_one v h
structure SnapM.At (Q : Nat → Prop) (w : World) (m : SnapM) : Prop where
  files : EntsAt Q w m.fa m.fn m.e.files
  caps : m.fn ≤ m.fc
  small : m.e.name.size ≤ maxLen

/-- what was there but the blocks of M is as it was -/
structure Only (M : Nat → Prop) (w w' : World) : Prop where
  os : w'.os = w.os
  tape : w'.tape = w.tape
  output : w'.output = w.output
  size : w.heap.size ≤ w'.heap.size
  block : ∀ k, k < w.heap.size → ¬ M k → w'.heap[k]? = w.heap[k]?
theorem Only.refl (M : Nat → Prop) (w : World) : Only M w w := ⟨rfl, rfl, rfl, Nat.le_refl _, fun _ _ _ => rfl⟩
theorem Only.trans {M : Nat → Prop} {a b c : World} (h : Only M a b) (k : Only M b c) : Only M a c :=
  ⟨k.os.trans h.os, k.tape.trans h.tape, k.output.trans h.output, Nat.le_trans h.size k.size, fun i hi hm => (k.block i (Nat.lt_of_lt_of_le hi h.size) hm).trans (h.block i hi hm)⟩
theorem Only.mono {M N : Nat → Prop} {a b : World} (h : Only M a b) (hm : ∀ k, k < a.heap.size → M k → N k) : Only N a b :=
  ⟨h.os, h.tape, h.output, h.size, fun i hi hn => h.block i hi fun m => hn (hm i hi m)⟩
theorem Only.of_below {M : Nat → Prop} {a b : World} (h : Below a.heap.size a b) : Only M a b := ⟨h.os, h.tape, h.output, h.size, fun k hk _ => h.block k hk⟩
theorem Only.of_out {M : Nat → Prop} {g : Nat} {a b : World} (h : Out g a b) (hg : M g) : Only M a b := ⟨h.os, h.tape, h.output, h.size, fun k hk hm => h.block k hk (fun e => hm (e ▸ hg))⟩
theorem Only.of_kept {M : Nat → Prop} {g : Nat} {a b : World} (h : Kept g a b) (hg : M g) : Only M a b := Only.of_out (Out.of_kept h) hg
theorem Only.below {M : Nat → Prop} {B : Nat} {a b : World} (h : Only M a b) (hB : ∀ k, M k → B ≤ k) (hs : B ≤ a.heap.size) : Below B a b :=
  ⟨h.os, h.tape, h.output, h.size, fun k hk => h.block k (by omega) (fun m => by have := hB k m; omega)⟩
theorem Only.cell {M : Nat → Prop} {a b : World} (h : Only M a b) {p : Addr} (hp : p.block < a.heap.size) (hm : ¬ M p.block) : b.cell? p = a.cell? p := World.cell?_of_block (w := a) (h.block p.block hp hm)
theorem Only.cells {M : Nat → Prop} {a b : World} (h : Only M a b) {g : Nat} {cs : Array Value} {t : TypeId} (hc : CellsAt a g cs t) (hm : ¬ M g) : CellsAt b g cs t := by
  have hl := hc.lt
  unfold CellsAt at hc ⊢
  rw [h.block g hl hm]
  exact hc
theorem Only.row {M : Nat → Prop} {a b : World} (h : Only M a b) {base : Nat} {e : TypeId} {size : Nat} {v : Value} {n : Nat} {xs : List Value} (hr : a.ownsRow base e size v n xs) (hm : ∀ k, v.ownBlock = some k → ¬ M k) : b.ownsRow base e size v n xs := by
  refine ⟨hr.1, ?_⟩
  rcases hr.2 with h0 | ⟨g, cap, cur, hv, hb, hg, rest⟩
  · exact .inl h0
  · have hl := (hr.lt g (by rw [hv]; rfl)).2
    exact .inr ⟨g, cap, cur, hv, hb, by rw [h.block g hl (hm g (by rw [hv]; rfl))]; exact hg, rest⟩
theorem Only.ents {M : Nat → Prop} {a b : World} (h : Only M a b) {Q : Nat → Prop} {x : Option Addr} {n : Nat} {l : List Ent} (he : EntsAt Q a x n l) (hm : ∀ k, Q k → ¬ M k) : EntsAt Q b x n l := by
  refine ⟨he.1, he.2.1, fun hn => ?_⟩
  obtain ⟨g, off, rfl, hlt, hq, hc⟩ := he.2.2 hn
  refine ⟨g, off, rfl, Nat.lt_of_lt_of_le hlt h.size, hq, fun i hi => ?_⟩
  have hE := hc i hi
  exact ⟨(h.cell (p := ⟨g, off + i * 3, none⟩) hlt (hm g hq)).trans hE.c0, (h.cell (p := ⟨g, off + i * 3 + 1, none⟩) hlt (hm g hq)).trans hE.c1, (h.cell (p := ⟨g, off + i * 3 + 2, none⟩) hlt (hm g hq)).trans hE.c2⟩
theorem Only.snap {M : Nat → Prop} {a b : World} (h : Only M a b) {Q : Nat → Prop} {m : SnapM} (hs : m.At Q a) (hm : ∀ k, Q k → ¬ M k) : m.At Q b := ⟨h.ents hs.files hm, hs.caps, hs.small⟩
theorem Only.nums {M : Nat → Prop} {a b : World} (h : Only M a b) {Q : Nat → Prop} {k : IntKind} {x : Option Addr} {n : Nat} {l : List Int} (hn : NumsAt Q k a x n l) (hm : ∀ k, Q k → ¬ M k) : NumsAt Q k b x n l := by
  refine ⟨hn.1, hn.2.1, fun h0 => ?_⟩
  obtain ⟨g, off, rfl, hlt, hq, hc⟩ := hn.2.2 h0
  exact ⟨g, off, rfl, Nat.lt_of_lt_of_le hlt h.size, hq, fun i hi => (h.cell (p := ⟨g, off + i, none⟩) hlt (hm g hq)).trans (hc i hi)⟩
theorem Only.blocks {M : Nat → Prop} {a b : World} (h : Only M a b) {Q : Nat → Prop} {g off n : Nat} {B : Nat → Blk} (hb : Blocks Q a g off n B) (hg : ¬ M g) (hgl : g < a.heap.size) (hm : ∀ k, Q k → ¬ M k) : Blocks Q b g off n B := by
  intro i hi
  obtain ⟨ka, kn, kc, ba, bn, bc, hE⟩ := hb i hi
  exact ⟨ka, kn, kc, ba, bn, bc, (h.cell (p := ⟨g, off + i * 4, none⟩) hgl hg).trans hE.c0, (h.cell (p := ⟨g, off + i * 4 + 1, none⟩) hgl hg).trans hE.c1, (h.cell (p := ⟨g, off + i * 4 + 2, none⟩) hgl hg).trans hE.c2, (h.cell (p := ⟨g, off + i * 4 + 3, none⟩) hgl hg).trans hE.c3, h.nums hE.kids hm, h.nums hE.bytes hm, hE.refs, hE.level, hE.caps⟩
theorem only_grown {M : Nat → Prop} {a b : World} {row : Option Nat} (h : a.grownBy b row) (hm : ∀ k, row = some k → M k) : Only M a b :=
  ⟨h.os, h.tape, h.output, h.size, fun k hk hn => h.block k hk (fun e => hn (hm k e.symm))⟩

/-- entries in a row of one's own, for one who reads -/
theorem ents_own {w : World} {base : Nat} {e : TypeId} {fa : Option Addr} {fn fc : Nat} {l : List Ent} (hok : ∀ x ∈ l, x.ok) (h : w.ownsRow base e 3 (.slice fa fn fc) fn (entCells l)) : EntsAt (fun b => base ≤ b ∧ ((Value.slice fa fn fc).ownBlock = some b)) w fa fn l := by
  have hl : l.length = fn := by have := h.1; rw [entCells_len] at this; omega
  refine ⟨hl, hok, fun hn => ?_⟩
  rcases h.2 with ⟨hv, h0⟩ | ⟨g, cap, cur, hv, hb, hg, hnc, _⟩
  · omega
  · simp only [Value.slice.injEq] at hv
    obtain ⟨rfl, _, rfl⟩ := hv
    refine ⟨g, 0, rfl, (h.lt g rfl).2, ⟨hb, rfl⟩, fun i hi => ?_⟩
    have hil : i < l.length := by omega
    have hx : l.getD i Ent.zero = l[i] := by simp [List.getD, hil]
    rw [hx, Nat.zero_add]
    have hc := fun r (hr : r < 3) => (h.cellAt (i * 3 + r) (by omega)).trans (flat_get Ent.cells_len l i r hil hr)
    exact ⟨hc 0 (by omega), hc 1 (by omega), hc 2 (by omega)⟩
theorem snaps_own {w : World} {Q : Nat → Prop} {base : Nat} {e : TypeId} {sa : Option Addr} {sn sc : Nat} {l : List SnapM} (hl : ∀ m ∈ l, m.At Q w) (h : w.ownsRow base e 2 (.slice sa sn sc) sn (snapCells l)) : SnapsAt (fun b => Q b ∨ (base ≤ b ∧ (Value.slice sa sn sc).ownBlock = some b)) w sa sn (l.map (·.e)) := by
  have hln : l.length = sn := by have := h.1; rw [snapCells_len] at this; omega
  refine ⟨by rw [List.length_map]; exact hln, fun hn => ?_⟩
  rcases h.2 with ⟨hv, h0⟩ | ⟨g, cap, cur, hv, hb, hg, hnc, _⟩
  · omega
  · simp only [Value.slice.injEq] at hv
    obtain ⟨rfl, _, rfl⟩ := hv
    refine ⟨g, 0, rfl, (h.lt g rfl).2, .inr ⟨hb, rfl⟩, fun i hi => ?_⟩
    have hil : i < l.length := by omega
    have hx : (l.map (·.e)).getD i SnapE.zero = l[i].e := by simp [List.getD, hil]
    rw [hx, Nat.zero_add]
    have hc := fun r (hr : r < 2) => (h.cellAt (i * 2 + r) (by omega)).trans (flat_get SnapM.cells_len l i r hil hr)
    have hA := hl l[i] (List.getElem_mem hil)
    exact ⟨l[i].fa, l[i].fn, l[i].fc, hc 0 (by omega), hc 1 (by omega), hA.files.weaken (fun b _ q => .inl q), hA.small, hA.caps⟩
theorem EntsAt.cells {Q : Nat → Prop} {w : World} {b off n : Nat} {l : List Ent} (h : EntsAt Q w (some ⟨b, off, none⟩) n l) : ∀ j u, (entCells l)[j]? = some u → w.cell? ⟨b, off + j, none⟩ = some u := by
  intro j u hj
  have hjl : j < l.length * 3 := by
    rw [← entCells_len]
    rcases Nat.lt_or_ge j (entCells l).length with h | h
    · exact h
    · rw [List.getElem?_eq_none h] at hj; cases hj
  have hi : j / 3 < l.length := by omega
  have hE := h.ent (i := j / 3) (by rw [← h.1]; exact hi)
  have hx : l.getD (j / 3) Ent.zero = l[j / 3] := by simp [List.getD, hi]
  rw [hx] at hE
  have hg := flat_get Ent.cells_len l (j / 3) (j % 3) hi (Nat.mod_lt _ (by omega))
  rw [show j / 3 * 3 + j % 3 = j by omega] at hg
  unfold entCells at hj
  rw [hg] at hj
  have h3 : j % 3 = 0 ∨ j % 3 = 1 ∨ j % 3 = 2 := by omega
  rcases h3 with h3 | h3 | h3
  · rw [h3] at hj
    rw [show off + j = off + j / 3 * 3 by omega, hE.c0]
    exact hj
  · rw [h3] at hj
    rw [show off + j = off + j / 3 * 3 + 1 by omega, hE.c1]
    exact hj
  · rw [h3] at hj
    rw [show off + j = off + j / 3 * 3 + 2 by omega, hE.c2]
    exact hj
/-- snaps that came in, each with where its files lie -/
theorem SnapsAt.rows {Q : Nat → Prop} {w : World} {a : Option Addr} {n : Nat} {l : List SnapE} (h : SnapsAt Q w a n l) : ∃ ms : List SnapM, ms.map (·.e) = l ∧ (∀ m ∈ ms, m.At Q w) ∧ (0 < n → ∃ b off, a = some ⟨b, off, none⟩ ∧ b < w.heap.size ∧ ∀ j u, (snapCells ms)[j]? = some u → w.cell? ⟨b, off + j, none⟩ = some u) := by
  rcases Nat.eq_zero_or_pos n with h0 | h0
  · subst h0
    have := List.eq_nil_of_length_eq_zero h.1
    subst this
    exact ⟨[], rfl, by simp, fun h => absurd h (by omega)⟩
  · obtain ⟨b, off, rfl, hlt, hq, hc⟩ := h.2 h0
    have hl := h.1
    have key : ∀ i, i ≤ n → ∃ ms : List SnapM, ms.length = i ∧ ms.map (·.e) = l.take i ∧ (∀ m ∈ ms, m.At Q w) ∧ ∀ j (hj : j < ms.length), w.cell? ⟨b, off + j * 2, none⟩ = some (.string ms[j].e.name) ∧ w.cell? ⟨b, off + j * 2 + 1, none⟩ = some (.slice ms[j].fa ms[j].fn ms[j].fc) := by
      intro i
      induction i with
      | zero => intro _; exact ⟨[], rfl, by simp, by simp, fun j hj => absurd hj (by simp)⟩
      | succ i ih =>
        intro hi
        obtain ⟨ms, e1, e2, e3, e4⟩ := ih (by omega)
        obtain ⟨fa, fn, fc, hs⟩ := hc i (by omega)
        have hil : i < l.length := by omega
        have hx : l.getD i SnapE.zero = l[i] := by simp [List.getD, hil]
        rw [hx] at hs
        refine ⟨ms ++ [⟨l[i], fa, fn, fc⟩], by simp [e1], by rw [List.map_append, e2, List.take_succ_eq_append_getElem hil]; rfl, ?_, ?_⟩
        · intro m hm
          rcases List.mem_append.1 hm with hm | hm
          · exact e3 m hm
          · rw [List.mem_singleton.1 hm]; exact ⟨hs.files, hs.caps, hs.small⟩
        · intro j hj
          rw [List.length_append, List.length_singleton] at hj
          by_cases ej : j < ms.length
          · rw [List.getElem_append_left ej]; exact e4 j ej
          · obtain rfl : j = i := by omega
            rw [List.getElem_append_right (by omega)]
            simp only [e1, Nat.sub_self, List.getElem_cons_zero]
            exact ⟨hs.c0, hs.c1⟩
    obtain ⟨ms, e1, e2, e3, e4⟩ := key n (Nat.le_refl _)
    refine ⟨ms, by rw [e2]; exact List.take_of_length_le (by omega), e3, fun _ => ⟨b, off, rfl, hlt, fun j u hj => ?_⟩⟩
    have hjl : j < ms.length * 2 := by
      rw [← snapCells_len]
      rcases Nat.lt_or_ge j (snapCells ms).length with h | h
      · exact h
      · rw [List.getElem?_eq_none h] at hj; cases hj
    have hi : j / 2 < ms.length := by omega
    have hg := flat_get SnapM.cells_len ms (j / 2) (j % 2) hi (Nat.mod_lt _ (by omega))
    rw [show j / 2 * 2 + j % 2 = j by omega] at hg
    unfold snapCells at hj
    rw [hg] at hj
    have h4 := e4 (j / 2) hi
    have h2 : j % 2 = 0 ∨ j % 2 = 1 := by omega
    rcases h2 with h2 | h2
    · rw [h2] at hj
      rw [show off + j = off + j / 2 * 2 by omega, h4.1]
      exact hj
    · rw [h2] at hj
      rw [show off + j = off + j / 2 * 2 + 1 by omega, h4.2]
      exact hj
end Go.Proofs.YtihkljfcplfldaaGreat
