/-
  Cop, SetDB, DidF in one text. Nothing here is trusted.
-/
import Derived.Test.YtnmcgmpmcliinaaGreatPart26
import Derived.Test.YtnmcgmpmcliinaaGreatPart30
import Derived.Deep.AppendLies
set_option linter.unusedVariables false
namespace Go.Proofs.YtnmcgmpmcliinaaGreat
open Go.RowKit

/-- copies of a store and of a set: the blocks of P are theirs -/
structure Cop (W : World) (P : Nat → Prop) (w : World) (n : Nat) (B : Nat → Blk) (x : SetE) (g : Nat) (v : SetV) (ms : List SnapM) : Prop where
  own : Own w g n B
  lists : Blocks (fun b => g < b ∧ P b ∧ ¬ v.mine b) w g 0 n B
  set : SetNew W.heap.size (fun b => P b ∧ b ≠ g) w v x ms
  pg : P g
  ng : ¬ v.mine g
  mine : ∀ b, v.mine b → P b
  new : ∀ b, P b → W.heap.size ≤ b
theorem Cop.only {W : World} {P M : Nat → Prop} {w w' : World} {n : Nat} {B : Nat → Blk} {x : SetE} {g : Nat} {v : SetV} {ms : List SnapM} (h : Cop W P w n B x g v ms) (on : Only M w w') (hM : ∀ b, M b → ¬ P b) : Cop W P w' n B x g v ms := by
  have hg : ¬ M g := fun m => hM g m h.pg
  have hl := on.blocks h.lists hg h.own.lt (fun k q e => hM k e q.2.1)
  exact ⟨⟨Nat.lt_of_lt_of_le h.own.lt on.size, hl.weaken (fun b _ q => q.1), fun i hi => (World.frozen?_of_block (w := w) (on.block g h.own.lt hg)).trans (h.own.free i hi)⟩, hl, h.set.only on (fun b hb m => hM b m (h.mine b hb)) (fun b hb m => hM b m hb.1), h.pg, h.ng, h.mine, h.new⟩
theorem Cop.two {W : World} {P : Nat → Prop} {w : World} {n : Nat} {B : Nat → Blk} {x : SetE} {g ob yb : Nat} {v : SetV} {ms : List SnapM} (h : Cop W P w n B x g v ms) (ho : CellsAt w ob #[.slice (some ⟨g, 0, none⟩) n n] 24) (hy : CellsAt w yb #[.string v.name, .slice v.fa v.fn v.fc, .slice v.sa v.sn v.sc] 47) (hne : ob ≠ yb) (po : ¬ P ob) (py : ¬ P yb) : Two W.heap.size (fun b => P b ∧ b ≠ g) w ob yb g n B v x ms :=
  ⟨h.own, ho, ⟨by rw [← h.set.name]; exact hy, h.set, fun f => py (h.mine _ f), fun f => py f.1⟩, ⟨hne, fun f => po (h.mine _ f), fun f => po f.1, fun e => po (e ▸ h.pg)⟩, ⟨fun e => py (e ▸ h.pg), h.ng, fun f => f.2 rfl, h.new g h.pg⟩, h.lists.weaken (fun b _ q => ⟨fun e => py (e ▸ q.2.1), q.2.2, fun e => po (e ▸ q.2.1)⟩), fun b h1 => h.new b h1.1⟩
/-- out of the two calls, whichever came first -/
theorem cop_of {W wO wS w : World} {n : Nat} {B : Nat → Blk} {x : SetE} {g lo : Nat} {v : SetV} {ms : List SnapM} (hO : Own wO g n B) (hg : W.heap.size ≤ g) (bO : Below wO.heap.size wO w) (hS : SetNew lo (fun b => lo ≤ b) wS v x ms) (hlo : W.heap.size ≤ lo) (bS : Below wS.heap.size wS w) (hap : wO.heap.size ≤ lo ∨ wS.heap.size ≤ g) :
    Cop W (fun b => (g ≤ b ∧ b < wO.heap.size) ∨ (lo ≤ b ∧ b < wS.heap.size)) w n B x g v ms := by
  have hgl := hO.lt
  have hm : ∀ b, v.mine b → lo ≤ b ∧ b < wS.heap.size := fun b hb => hS.mine_ge hb
  have hl : Blocks (fun b => g < b ∧ ((g ≤ b ∧ b < wO.heap.size) ∨ (lo ≤ b ∧ b < wS.heap.size)) ∧ ¬ v.mine b) wO g 0 n B := hO.blocks.weaken (fun b hb q => ⟨q, .inl ⟨by omega, hb⟩, fun f => by have := hm b f; omega⟩)
  have hs : SetNew lo (fun b => ((g ≤ b ∧ b < wO.heap.size) ∨ (lo ≤ b ∧ b < wS.heap.size)) ∧ b ≠ g) wS v x ms := hS.weaken (fun b hb q => ⟨.inr ⟨q, hb⟩, by omega⟩)
  have hs2 := hs.below bS
  exact ⟨hO.below bO, hl.below bO, ⟨hs2.name, hs2.small, ownsRow_base hlo hs2.files, ownsRow_base hlo hs2.snaps, hs2.eq, hs2.ok, hs2.lists, hs2.apart⟩, .inl ⟨Nat.le_refl _, hgl⟩, fun f => by have := hm g f; omega, fun b f => .inr (hm b f), fun b f => by omega⟩

/-- behind the assignment -/
def GotD (W wc : World) (n : Nat) (B : Nat → Blk) (x : SetE) (v12 v13 : Value) : Prop :=
  ∃ (ob yb g : Nat) (v : SetV) (ms : List SnapM) (P : Nat → Prop), v12 = .pointer (some ⟨ob, 0, none⟩) ∧ v13 = .pointer (some ⟨yb, 0, none⟩) ∧ Two W.heap.size P wc ob yb g n B v x ms ∧ Below W.heap.size W wc ∧ W.heap.size ≤ ob ∧ W.heap.size ≤ yb ∧ W.heap.size ≤ g
theorem got_fin {W w7 wc : World} {P M : Nat → Prop} {n : Nat} {B : Nat → Blk} {x : SetE} {g ob yb : Nat} {v : SetV} {ms : List SnapM} (h : Cop W P w7 n B x g v ms) (on : Only M w7 wc) (hM : ∀ b, M b → ¬ P b) (bb : Below W.heap.size W wc) (ho : CellsAt wc ob #[.slice (some ⟨g, 0, none⟩) n n] 24) (hy : CellsAt wc yb #[.string v.name, .slice v.fa v.fn v.fc, .slice v.sa v.sn v.sc] 47) (hne : ob ≠ yb) (po : ¬ P ob) (py : ¬ P yb) (lo : W.heap.size ≤ ob) (ly : W.heap.size ≤ yb) :
    GotD W wc n B x (.pointer (some ⟨ob, 0, none⟩)) (.pointer (some ⟨yb, 0, none⟩)) :=
  ⟨ob, yb, g, v, ms, _, rfl, rfl, (h.only on hM).two ho hy hne po py, bb, lo, ly, h.new g h.pg⟩
abbrev objX (v : SetV) : Obj := .cells #[.string v.name, .slice v.fa v.fn v.fc, .slice v.sa v.sn v.sc] 47
abbrev obj0X : Obj := .cells #[.string (ByteArray.mk #[]), .slice none 0 0, .slice none 0 0] 47
abbrev putX (w : World) (yb : Nat) (v : SetV) : World := ((w.setCell ⟨yb, 0, none⟩ (.string v.name)).setCell ⟨yb, 1, none⟩ (.slice v.fa v.fn v.fc)).setCell ⟨yb, 2, none⟩ (.slice v.sa v.sn v.sc)
theorem kept_putX (w : World) (yb : Nat) (v : SetV) : Kept yb w (putX w yb v) := Kept.setCell (g := yb) (Kept.setCell (g := yb) (Kept.setCell (g := yb) (Kept.refl _ _) (p := ⟨yb, 0, none⟩) rfl _) (p := ⟨yb, 1, none⟩) rfl _) (p := ⟨yb, 2, none⟩) rfl _
theorem cells_putX {w : World} {yb : Nat} {v : SetV} {c0 c1 c2 : Value} (h : CellsAt w yb #[c0, c1, c2] 47) : CellsAt (putX w yb v) yb #[.string v.name, .slice v.fa v.fn v.fc, .slice v.sa v.sn v.sc] 47 := by
  have k2 := ((h.set 0 (.string v.name)).set 1 (.slice v.fa v.fn v.fc)).set 2 (.slice v.sa v.sn v.sc)
  simp only [List.setIfInBounds_toArray, List.set_cons_zero, List.set_cons_succ] at k2
  exact k2
theorem kept_putS (w : World) (ob : Nat) (s : Value) : Kept ob w (w.setCell ⟨ob, 0, none⟩ s) := Kept.setCell (g := ob) (Kept.refl _ _) (p := ⟨ob, 0, none⟩) rfl _
theorem cells_putS {w : World} {ob : Nat} {s c0 : Value} (h : CellsAt w ob #[c0] 24) : CellsAt (w.setCell ⟨ob, 0, none⟩ s) ob #[s] 24 := by
  have k2 := h.set 0 s
  simp only [List.setIfInBounds_toArray, List.set_cons_zero] at k2
  exact k2

section
variable {W w7 : World} {P : Nat → Prop} {n : Nat} {B : Nat → Blk} {x : SetE} {g : Nat} {v : SetV} {ms : List SnapM}
theorem gotd_cab (h : Cop W P w7 n B x g v ms) (hP : ∀ b, P b → b < w7.heap.size) (bb : Below W.heap.size W w7) : GotD W ((w7.alloc (objS (some ⟨g, 0, none⟩) n n)).alloc (objX v)) n B x (.pointer (some ⟨w7.heap.size, 0, none⟩)) (.pointer (some ⟨w7.heap.size + 1, 0, none⟩)) :=
  got_fin h (Only.of_below (M := fun _ => False) (below_two _ _ _)) (fun _ m => m.elim) (Below.tr bb (below_two _ _ _)) ((cellsAt_alloc w7 _ _).below (below_alloc _ _)) (cellsAt_alloc2 w7 _ _ _) (by omega) (fun f => by have := hP _ f; omega) (fun f => by have := hP _ f; omega) bb.size (by have := bb.size; omega)
theorem gotd_cba (h : Cop W P w7 n B x g v ms) (hP : ∀ b, P b → b < w7.heap.size) (bb : Below W.heap.size W w7) : GotD W ((w7.alloc (objX v)).alloc (objS (some ⟨g, 0, none⟩) n n)) n B x (.pointer (some ⟨w7.heap.size + 1, 0, none⟩)) (.pointer (some ⟨w7.heap.size, 0, none⟩)) :=
  got_fin h (Only.of_below (M := fun _ => False) (below_two _ _ _)) (fun _ m => m.elim) (Below.tr bb (below_two _ _ _)) (cellsAt_alloc2 w7 _ _ _) ((cellsAt_alloc w7 _ _).below (below_alloc _ _)) (by omega) (fun f => by have := hP _ f; omega) (fun f => by have := hP _ f; omega) (by have := bb.size; omega) bb.size
theorem gotd_acb {a : Nat} {c0 : Value} (ha : W.heap.size ≤ a) (pa : ¬ P a) (ka : CellsAt w7 a #[c0] 24) (h : Cop W P w7 n B x g v ms) (hP : ∀ b, P b → b < w7.heap.size) (bb : Below W.heap.size W w7) : GotD W ((w7.setCell ⟨a, 0, none⟩ (.slice (some ⟨g, 0, none⟩) n n)).alloc (objX v)) n B x (.pointer (some ⟨a, 0, none⟩)) (.pointer (some ⟨w7.heap.size, 0, none⟩)) := by
  have kk := kept_putS w7 a (.slice (some ⟨g, 0, none⟩) n n)
  have k3 : CellsAt ((w7.setCell ⟨a, 0, none⟩ (.slice (some ⟨g, 0, none⟩) n n)).alloc (objX v)) w7.heap.size #[.string v.name, .slice v.fa v.fn v.fc, .slice v.sa v.sn v.sc] 47 := by
    have := cellsAt_alloc (w7.setCell ⟨a, 0, none⟩ (.slice (some ⟨g, 0, none⟩) n n)) #[.string v.name, .slice v.fa v.fn v.fc, .slice v.sa v.sn v.sc] 47
    rwa [kk.size] at this
  have hal := ka.lt
  exact got_fin h ((Only.of_kept (M := fun b => b = a) kk rfl).trans (Only.of_below (below_alloc _ _))) (fun b m f => pa (m ▸ f)) (Below.tr (bb.trans (kk.below ha)) (below_alloc _ _)) ((cells_putS ka).below (below_alloc _ _)) k3 (by omega) pa (fun f => by have := hP _ f; omega) ha bb.size
theorem gotd_bca {a : Nat} {c0 c1 c2 : Value} (ha : W.heap.size ≤ a) (pa : ¬ P a) (ka : CellsAt w7 a #[c0, c1, c2] 47) (h : Cop W P w7 n B x g v ms) (hP : ∀ b, P b → b < w7.heap.size) (bb : Below W.heap.size W w7) : GotD W ((putX w7 a v).alloc (objS (some ⟨g, 0, none⟩) n n)) n B x (.pointer (some ⟨w7.heap.size, 0, none⟩)) (.pointer (some ⟨a, 0, none⟩)) := by
  have kk := kept_putX w7 a v
  have k3 : CellsAt ((putX w7 a v).alloc (objS (some ⟨g, 0, none⟩) n n)) w7.heap.size #[.slice (some ⟨g, 0, none⟩) n n] 24 := by
    have := cellsAt_alloc (putX w7 a v) #[.slice (some ⟨g, 0, none⟩) n n] 24
    rwa [kk.size] at this
  have hal := ka.lt
  exact got_fin h ((Only.of_kept (M := fun b => b = a) kk rfl).trans (Only.of_below (below_alloc _ _))) (fun b m f => pa (m ▸ f)) (Below.tr (bb.trans (kk.below ha)) (below_alloc _ _)) k3 ((cells_putX ka).below (below_alloc _ _)) (by omega) (fun f => by have := hP _ f; omega) pa bb.size ha
theorem gotd_abc {a b : Nat} {c0 d0 d1 d2 : Value} (ha : W.heap.size ≤ a) (hb : W.heap.size ≤ b) (hne : a ≠ b) (pa : ¬ P a) (pb : ¬ P b) (ka : CellsAt w7 a #[c0] 24) (kb : CellsAt w7 b #[d0, d1, d2] 47) (h : Cop W P w7 n B x g v ms) (bb : Below W.heap.size W w7) : GotD W (putX (w7.setCell ⟨a, 0, none⟩ (.slice (some ⟨g, 0, none⟩) n n)) b v) n B x (.pointer (some ⟨a, 0, none⟩)) (.pointer (some ⟨b, 0, none⟩)) := by
  have k1 := kept_putS w7 a (.slice (some ⟨g, 0, none⟩) n n)
  have k2 := kept_putX (w7.setCell ⟨a, 0, none⟩ (.slice (some ⟨g, 0, none⟩) n n)) b v
  have o1 := Only.of_kept (M := fun k => k = a ∨ k = b) k1 (.inl rfl)
  have o2 := Only.of_kept (M := fun k => k = a ∨ k = b) k2 (.inr rfl)
  exact got_fin h (o1.trans o2) (fun k m f => by
    rcases m with m | m
    · exact pa (m ▸ f)
    · exact pb (m ▸ f)) ((bb.trans (k1.below ha)).trans (k2.below hb)) ((Only.of_kept (M := fun k => k = b) k2 rfl).cells (cells_putS ka) hne) (cells_putX ((Only.of_kept (M := fun k => k = a) k1 rfl).cells kb hne.symm)) hne pa pb ha hb
end
end Go.Proofs.YtnmcgmpmcliinaaGreat

namespace Go.Proofs.YtnmcgmpmcliinaaGreat
open Go.RowKit

/-- what Do leaves -/
def Did (n : Nat) (B : Nat → Blk) (key : Int) (x : SetE) (a : AskE) (cc : Int) (D : Nat → Blk) (y : SetE) : Prop := ∃ C made, ChgYes n B C key x a made y cc ∧ Right n D ∧ Fell n (moreB C (rootsX y)) D (rootsX x ++ [made])
/-- what Do answers -/
def RetDid (w : World) (n : Nat) (B : Nat → Blk) (key : Int) (x : SetE) (a : AskE) (cc : Int) (e : Ending) (w' : World) : Prop :=
  Below w.heap.size w w' ∧ ((∃ e' : Int, e = .returned (.tuple #[.agg #[.slice none 0 0], .agg #[.string (ByteArray.mk #[]), .slice none 0 0, .slice none 0 0], .int .i64 e']) ∧ e' ≠ 0 ∧ (SetOk n B key x → HeldR n B (rootsX x) → ChgNo n B key x a) ∧ (SetOk n B key x → HeldR n B (rootsX x) → ErrIs e' x a)) ∨
    (∃ (g : Nat) (D : Nat → Blk) (v : SetV) (y : SetE), e = .returned (.tuple #[.agg #[.slice (some ⟨g, 0, none⟩) n n], .agg #[.string v.name, .slice v.fa v.fn v.fc, .slice v.sa v.sn v.sc], .int .i64 0]) ∧ SetOk n B key x ∧ HeldR n B (rootsX x) ∧ Did n B key x a cc D y ∧ (w.heap.size ≤ g ∧ Own w' g n D) ∧ SetAt (fun b => w.heap.size ≤ b) w' v y))

theorem cutTo {A C : Prop} (h : A) (k : A → C) : C := k h
theorem le_of_chain {a b : World} {k : Nat} (h : Below a.heap.size a b) (hk : b.heap.size ≤ k) : a.heap.size ≤ k := Nat.le_trans h.size hk
theorem sz_drew (w : World) : w.drew.heap.size = w.heap.size := rfl
theorem sz_alloc (w : World) (o : Obj) : (w.alloc o).heap.size = w.heap.size + 1 := by simp
theorem StoreAt.drew {w : World} {a : Option Addr} {n : Nat} {B : Nat → Blk} (h : StoreAt w a n B) : StoreAt w.drew a n B := h.below (below_drew _ _)
theorem RetDid.drew {w w' : World} {n : Nat} {B : Nat → Blk} {key : Int} {x : SetE} {a : AskE} {cc : Int} {e : Ending} (h : RetDid w n B key x a cc e w') : RetDid w n B key x a cc e w'.drew := by
  obtain ⟨b, h⟩ := h
  refine ⟨b.trans (below_drew _ _), ?_⟩
  rcases h with h | ⟨g, D, v, y, h1, h2, h3, h4, h5, h6⟩
  · exact .inl h
  · exact .inr ⟨g, D, v, y, h1, h2, h3, h4, ⟨h5.1, h5.2.below (below_drew _ _)⟩, h6.below (below_drew _ _)⟩
/-- the boxes of Do -/
structure DB (W wr : World) (sa : Option Addr) (n sc : Nat) (v : SetV) (a : AskE) (ba : Option Addr) (bn bc : Nat) : Prop where
  bel : Below W.heap.size W wr
  sz : W.heap.size + 5 ≤ wr.heap.size
  bS : CellsAt wr W.heap.size #[.slice sa n sc] 24
  bX : CellsAt wr (W.heap.size + 1) #[.string v.name, .slice v.fa v.fn v.fc, .slice v.sa v.sn v.sc] 47
  bA : CellsAt wr (W.heap.size + 1 + 1) #[.int .i64 a.kind, .string a.set, .string a.file, .string a.to, .int .i64 a.pos, .int .i64 a.num, .slice ba bn bc] 30
  r8 : CellsAt wr (W.heap.size + 1 + 1 + 1) #[.slice none 0 0] 24
  r9 : CellsAt wr (W.heap.size + 1 + 1 + 1 + 1) #[.string (ByteArray.mk #[]), .slice none 0 0, .slice none 0 0] 47
theorem DB.below {W wr w' : World} {sa : Option Addr} {n sc : Nat} {v : SetV} {a : AskE} {ba : Option Addr} {bn bc : Nat} (h : DB W wr sa n sc v a ba bn bc) (b : Below wr.heap.size wr w') : DB W w' sa n sc v a ba bn bc := ⟨Below.tr h.bel b, Nat.le_trans h.sz b.size, h.bS.below b, h.bX.below b, h.bA.below b, h.r8.below b, h.r9.below b⟩
abbrev enterD (w : World) (sa : Option Addr) (n sc : Nat) (v : SetV) (a : AskE) (ba : Option Addr) (bn bc : Nat) : World :=
  ((((w.alloc (.cells #[.slice sa n sc] 24)).alloc (.cells #[.string v.name, .slice v.fa v.fn v.fc, .slice v.sa v.sn v.sc] 47)).alloc (.cells #[.int .i64 a.kind, .string a.set, .string a.file, .string a.to, .int .i64 a.pos, .int .i64 a.num, .slice ba bn bc] 30)).alloc (.cells #[.slice none 0 0] 24)).alloc (.cells #[.string (ByteArray.mk #[]), .slice none 0 0, .slice none 0 0] 47)
theorem db_enter (w : World) (sa : Option Addr) (n sc : Nat) (v : SetV) (a : AskE) (ba : Option Addr) (bn bc : Nat) : DB w (enterD w sa n sc v a ba bn bc) sa n sc v a ba bn bc := by
  have h1 := cellsAt_alloc w #[.slice sa n sc] 24
  have h2 := cellsAt_alloc (w.alloc (.cells #[.slice sa n sc] 24)) #[.string v.name, .slice v.fa v.fn v.fc, .slice v.sa v.sn v.sc] 47
  have h3 := cellsAt_alloc ((w.alloc (.cells #[.slice sa n sc] 24)).alloc (.cells #[.string v.name, .slice v.fa v.fn v.fc, .slice v.sa v.sn v.sc] 47)) #[.int .i64 a.kind, .string a.set, .string a.file, .string a.to, .int .i64 a.pos, .int .i64 a.num, .slice ba bn bc] 30
  have h4 := cellsAt_alloc (((w.alloc (.cells #[.slice sa n sc] 24)).alloc (.cells #[.string v.name, .slice v.fa v.fn v.fc, .slice v.sa v.sn v.sc] 47)).alloc (.cells #[.int .i64 a.kind, .string a.set, .string a.file, .string a.to, .int .i64 a.pos, .int .i64 a.num, .slice ba bn bc] 30)) #[.slice none 0 0] 24
  have h5 := cellsAt_alloc ((((w.alloc (.cells #[.slice sa n sc] 24)).alloc (.cells #[.string v.name, .slice v.fa v.fn v.fc, .slice v.sa v.sn v.sc] 47)).alloc (.cells #[.int .i64 a.kind, .string a.set, .string a.file, .string a.to, .int .i64 a.pos, .int .i64 a.num, .slice ba bn bc] 30)).alloc (.cells #[.slice none 0 0] 24)) #[.string (ByteArray.mk #[]), .slice none 0 0, .slice none 0 0] 47
  simp only [sz_alloc] at h2 h3 h4 h5
  exact ⟨bAl (bAl (bAl (bAl (bAl (Below.refl _ w) _) _) _) _) _, by simp, (((h1.below (below_alloc _ _)).below (below_alloc _ _)).below (below_alloc _ _)).below (below_alloc _ _), ((h2.below (below_alloc _ _)).below (below_alloc _ _)).below (below_alloc _ _), (h3.below (below_alloc _ _)).below (below_alloc _ _), h4.below (below_alloc _ _), h5⟩
/-- the stores into the results -/
theorem DB.put {W wr : World} {sa : Option Addr} {n sc : Nat} {v : SetV} {a : AskE} {ba : Option Addr} {bn bc : Nat} (h : DB W wr sa n sc v a ba bn bc) (s : Value) (u : SetV) : Below W.heap.size W (putX (wr.setCell ⟨W.heap.size + 1 + 1 + 1, 0, none⟩ s) (W.heap.size + 1 + 1 + 1 + 1) u) :=
  (h.bel.trans ((kept_putS wr (W.heap.size + 1 + 1 + 1) s).below (by omega))).trans ((kept_putX _ _ u).below (by omega))
theorem copySet_lo (Q : Nat → Prop) (v : SetV) (x : SetE) (w : World) (hX : SetAt Q w v x) (hs : Shape x) :
    Calls Tryz.prog 46 #[.agg #[.string v.name, .slice v.fa v.fn v.fc, .slice v.sa v.sn v.sc]] w fun e w' => (∃ (u : SetV) (ms : List SnapM) (lo : Nat), e = .returned (.agg #[.string u.name, .slice u.fa u.fn u.fc, .slice u.sa u.sn u.sc]) ∧ w.heap.size ≤ lo ∧ SetNew lo (fun b => lo ≤ b) w' u x ms) ∧ Below w.heap.size w w' := by
  refine (copySet_any Q v x w hX hs.few hs.fewS (fun s h => (hs.filesS s h).1)).mono ?_
  rintro e w' ⟨⟨u, ms, rfl, hn⟩, b⟩
  exact ⟨⟨u, ms, w.heap.size + 2, rfl, by omega, hn⟩, b⟩

theorem roots_lo (Q : Nat → Prop) (v : SetV) (x : SetE) (nm : ByteArray) (w : World) (hX : SetAt Q w v x) (hs : Shape x) (hnm : v.name = nm) :
    Calls Tryz.prog 80 #[.agg #[.string nm, .slice v.fa v.fn v.fc, .slice v.sa v.sn v.sc]] w fun e w' => (∃ (a : Option Addr) (c lo : Nat), e = .returned (.slice a (rootsX x).length c) ∧ w.heap.size ≤ lo ∧ w'.ownsRow lo 3 1 (.slice a (rootsX x).length c) (rootsX x).length ((rootsX x).map (Value.int .i64)) ∧ (∀ r ∈ rootsX x, (Lit.int .i64 r).wf = true) ∧ lo ≤ w'.heap.size) ∧ Below w.heap.size w w' := by
  subst hnm
  refine (roots_any Q v x w hX hs.few hs.fewS (fun s h => (hs.filesS s h).1)).mono ?_
  rintro e w' ⟨⟨a, c, h1, h2, h3⟩, b⟩
  exact ⟨⟨a, c, w.heap.size, h1, Nat.le_refl _, h2, h3, b.size⟩, b⟩
theorem ChgYes.made {n : Nat} {B C : Nat → Blk} {key : Int} {x y : SetE} {a : AskE} {made cc : Int} (h : ChgYes n B C key x a made y cc) (hB : Right n B) : (made = 0 ∨ (1 ≤ made ∧ made ≤ n)) ∧ n ≤ 400 := by
  have h4 := hB.small
  have ht : ∀ {C : Nat → Blk} {c : Int}, Turned n B C made c → (made = 0 ∨ (1 ≤ made ∧ made ≤ n)) := fun h => by
    rcases h.root with h | ⟨⟨h1, h2, _⟩, _⟩
    · exact .inl h
    · exact .inr ⟨h1, h2⟩
  rcases h with ⟨_, _, _, _, _, _, h, _⟩ | ⟨_, _, _, _, _, _, h, _⟩ | ⟨_, _, h⟩
  · exact ⟨ht h.turned, h4⟩
  · exact ⟨ht h.turned, h4⟩
  · exact ⟨.inl h, h4⟩
/-- behind an append to a row of one's own -/
theorem app_after {w5 cur wA : World} {lo n : Nat} {v : Value} {xs : List Value} (bb : Below w5.heap.size w5 cur) (hr : cur.ownsRow lo 3 1 v n xs) (hlo : w5.heap.size ≤ lo) (hg : cur.grownBy wA v.ownBlock) : Below w5.heap.size w5 wA := bb.grown hg bb.size (fun i hi => Nat.le_trans hlo (hr.lt i hi).1)
theorem app_nums {cur wA : World} {lo n hi : Nat} {v : Value} {xs : List Value} (hr : cur.ownsRow lo 3 1 v n xs) (hhi : ∀ b, v.ownBlock = some b → b < hi) (hg : cur.grownBy wA v.ownBlock) {ya : Option Addr} {yn l h : Nat} {R : List Int} (hN : NumsAt (fun b => l ≤ b ∧ b < h) .i64 cur ya yn R) (hap : h ≤ lo ∨ hi ≤ l) : NumsAt (fun b => l ≤ b ∧ b < h) .i64 wA ya yn R :=
  (⟨hg.os, hg.tape, hg.output, hg.size, fun k hk hm => hg.block k hk (fun e => hm e.symm)⟩ : Only (fun b => v.ownBlock = some b) cur wA).nums hN (fun k q e => by have h1 := (hr.lt k e).1; have h2 := hhi k e; omega)
theorem newsB_one {w : World} {A : Nat} {c : Value} {t : TypeId} (h : CellsAt w A #[c] t) : ∀ j u, [c][j]? = some u → w.cell? ((⟨A, 0, none⟩ : Addr).add j) = some u := fun j u hu => by
  match j, hu with
  | 0, hu =>
    have := h.cell 0
    simp at this hu
    subst hu
    have hadd : (⟨A, 0, none⟩ : Addr).add 0 = ⟨A, 0, none⟩ := by unfold Addr.add; split <;> simp_all
    rw [hadd]
    exact this
  | k + 1, hu => simp at hu
theorem nums_app {w : World} {lo g gA cap : Nat} {R : List Int} {m : Int} (hr : w.ownsRow lo 3 1 (.slice (some ⟨gA, 0, none⟩) (R.length + 1) cap) (R.length + 1) (R.map (Value.int .i64) ++ [.int .i64 m])) (hw : ∀ r ∈ R, (Lit.int .i64 r).wf = true) (hm : -9223372036854775808 ≤ m ∧ m ≤ 9223372036854775807) (hg : g < lo) : NumsAt (fun b => b ≠ g) .i64 w (some ⟨gA, 0, none⟩) (R.length + 1) (R ++ [m]) := by
  have e : R.map (Value.int .i64) ++ [.int .i64 m] = (R ++ [m]).map (Value.int .i64) := by simp
  rw [e] at hr
  obtain ⟨a, c, hv, _, hN⟩ := numsAt_own (fun r hr => by
    rcases List.mem_append.1 hr with h | h
    · exact hw r h
    · simp at h; subst h; exact WalkArith.wf_i64 hm) hr
  simp only [Value.slice.injEq] at hv
  obtain ⟨rfl, _, rfl⟩ := hv
  exact hN.weaken (fun b _ h => by omega)
theorem nums_row {w : World} {lo : Nat} {a : Option Addr} {c : Nat} {R : List Int} (hr : w.ownsRow lo 3 1 (.slice a R.length c) R.length (R.map (Value.int .i64))) (hw : ∀ r ∈ R, (Lit.int .i64 r).wf = true) : NumsAt (fun b => lo ≤ b ∧ b < w.heap.size) .i64 w a R.length R := by
  obtain ⟨a', c', hv, _, hN⟩ := numsAt_own hw hr
  simp only [Value.slice.injEq] at hv
  obtain ⟨rfl, _, rfl⟩ := hv
  exact hN.weaken (fun b hb h => ⟨h, hb⟩)
/-- behind Shift -/
def GotE (w2 wc : World) (n ob yb g : Nat) (C : Nat → Blk) (v : SetV) (x y : SetE) (made : Int) : Prop :=
  ∃ (D : Nat → Blk) (L : Nat → Prop) (ms : List SnapM), Right n D ∧ Fell n (moreB C (rootsX y)) D (rootsX x ++ [made]) ∧ Own wc g n D ∧ wc.cell? ⟨ob, 0, none⟩ = some (.slice (some ⟨g, 0, none⟩) n n) ∧ CellsAt wc yb #[.string y.name, .slice v.fa v.fn v.fc, .slice v.sa v.sn v.sc] 47 ∧ SetNew w2.heap.size L wc v y ms ∧ (∀ b, L b → w2.heap.size ≤ b) ∧ Below w2.heap.size w2 wc ∧ ob < wc.heap.size
theorem got_e {w2 w5 cur w8 : World} {L : Nat → Prop} {n ob yb g : Nat} {C D : Nat → Blk} {v : SetV} {x y : SetE} {ms : List SnapM} {made : Int} (b5 : Below w2.heap.size w2 w5) (hT : Two w2.heap.size L w5 ob yb g n C v y ms) (bb : Below w5.heap.size w5 cur) (ho : Out g cur w8) (hP : OwnPtr w8 ⟨ob, 0, none⟩ g n D) (hR : Right n D) (hF : Fell n (moreB C (rootsX y)) D (rootsX x ++ [made])) : GotE w2 w8 n ob yb g C v x y made := by
  have on : Only (fun b => b = g) cur w8 := Only.of_out ho rfl
  exact ⟨D, L, ms, hR, hF, hP.own, hP.cell, on.cells (hT.set.box.below bb) (fun e => hT.ng.1 e.symm), (hT.set.new.below bb).only on (fun b hb e => hT.ng.2.1 (e ▸ hb)) (fun b hb e => hT.ng.2.2.1 (e ▸ hb)), hT.lb, (Below.tr b5 bb).trans (ho.below hT.ng.2.2.2 (Nat.le_trans b5.size bb.size)), hP.lt⟩
theorem GotE.keep {w2 wc : World} {n ob yb g : Nat} {C : Nat → Blk} {v : SetV} {x y : SetE} {made : Int} (h : GotE w2 wc n ob yb g C v x y made) : Below w2.heap.size w2 wc := by
  obtain ⟨_, _, _, _, _, _, _, _, _, _, h, _⟩ := h
  exact h
theorem GotE.y0 {w2 wc : World} {n ob yb g : Nat} {C : Nat → Blk} {v : SetV} {x y : SetE} {made : Int} (h : GotE w2 wc n ob yb g C v x y made) : wc.cell? ⟨yb, 0, none⟩ = some (.string y.name) := by
  obtain ⟨_, _, _, _, _, _, _, h, _⟩ := h
  exact h.cell 0
theorem GotE.y1 {w2 wc : World} {n ob yb g : Nat} {C : Nat → Blk} {v : SetV} {x y : SetE} {made : Int} (h : GotE w2 wc n ob yb g C v x y made) : wc.cell? ⟨yb, 1, none⟩ = some (.slice v.fa v.fn v.fc) := by
  obtain ⟨_, _, _, _, _, _, _, h, _⟩ := h
  exact h.cell 1
theorem GotE.y2 {w2 wc : World} {n ob yb g : Nat} {C : Nat → Blk} {v : SetV} {x y : SetE} {made : Int} (h : GotE w2 wc n ob yb g C v x y made) : wc.cell? ⟨yb, 2, none⟩ = some (.slice v.sa v.sn v.sc) := by
  obtain ⟨_, _, _, _, _, _, _, h, _⟩ := h
  exact h.cell 2
/-- behind the stores into the results -/
theorem fin_did {w w2 WC : World} {sa : Option Addr} {n sc : Nat} {B C D : Nat → Blk} {key : Int} {v v3 : SetV} {x y : SetE} {a : AskE} {ba : Option Addr} {bn bc g' : Nat} {cc made : Int} {L : Nat → Prop} {ms : List SnapM} (hdb : DB w WC sa n sc v a ba bn bc) (hsz2 : w.heap.size + 5 ≤ w2.heap.size) (g8 : w2.heap.size ≤ g') (hx : SetOk n B key x) (hh : HeldR n B (rootsX x)) (hYes : ChgYes n B C key x a made y cc) (hRD : Right n D) (hFD : Fell n (moreB C (rootsX y)) D (rootsX x ++ [made])) (hOD : Own WC g' n D) (hSN : SetNew w2.heap.size L WC v3 y ms) (hL : ∀ b, L b → w2.heap.size ≤ b) :
    RetDid w n B key x a cc (.returned (.tuple #[.agg #[.slice (some ⟨g', 0, none⟩) n n], .agg #[.string y.name, .slice v3.fa v3.fn v3.fc, .slice v3.sa v3.sn v3.sc], .int .i64 0])) (putX (WC.setCell ⟨w.heap.size + 1 + 1 + 1, 0, none⟩ (.slice (some ⟨g', 0, none⟩) n n)) (w.heap.size + 1 + 1 + 1 + 1) ⟨y.name, v3.fa, v3.fn, v3.fc, v3.sa, v3.sn, v3.sc⟩) := by
  have k1 := kept_putS WC (w.heap.size + 1 + 1 + 1) (.slice (some ⟨g', 0, none⟩) n n)
  have k2 := kept_putX (WC.setCell ⟨w.heap.size + 1 + 1 + 1, 0, none⟩ (.slice (some ⟨g', 0, none⟩) n n)) (w.heap.size + 1 + 1 + 1 + 1) ⟨y.name, v3.fa, v3.fn, v3.fc, v3.sa, v3.sn, v3.sc⟩
  have o1 := Only.of_kept (M := fun k => k = w.heap.size + 1 + 1 + 1 ∨ k = w.heap.size + 1 + 1 + 1 + 1) k1 (.inl rfl)
  have o2 := Only.of_kept (M := fun k => k = w.heap.size + 1 + 1 + 1 ∨ k = w.heap.size + 1 + 1 + 1 + 1) k2 (.inr rfl)
  have on := o1.trans o2
  have hS2 := (hSN.only on (fun b hb m => by have := (hSN.mine_ge hb).1; omega) (fun b hb m => by have := hL b hb; omega)).at
  refine ⟨hdb.put _ _, .inr ⟨g', D, ⟨y.name, v3.fa, v3.fn, v3.fc, v3.sa, v3.sn, v3.sc⟩, y, rfl, hx, hh, ⟨C, made, hYes, hRD, hFD⟩, ⟨by omega, own_only hOD on (fun b _ m => by omega)⟩, ?_⟩⟩
  exact ⟨rfl, hS2.small, hS2.files.weaken (fun b _ h => by rcases h with h | h; (· omega); have := hL b h; omega), hS2.snaps.weaken (fun b _ h => by rcases h with h | h; (· omega); have := hL b h; omega), hS2.caps⟩
end Go.Proofs.YtnmcgmpmcliinaaGreat

namespace Go.Proofs.YtnmcgmpmcliinaaGreat
open Go.RowKit

theorem Did.after {n : Nat} {B D : Nat → Blk} {key : Int} {x y : SetE} {a : AskE} {cc : Int} (hx : SetOk n B key x) (hh : HeldR n B (rootsX x)) (hb : Bytes a.bytes) (hc : ∀ k, k < n → (B k).refs ≤ cc) (hcc : cc + moreOf a + 24 ≤ 1000000) (h : Did n B key x a cc D y) : After n key B D x y ∧ ∀ k, k < n → (D k).refs ≤ cc + leftOf a := by
  obtain ⟨C, made, hY, hD, hF⟩ := h
  have := (hY.chg hx hb hc).done hx hh hcc hD hF
  exact ⟨this.1, this.2.2⟩
theorem Did.plain {n : Nat} {B D : Nat → Blk} {key : Int} {x y : SetE} {a : AskE} {cc : Int} (h : Did n B key x a cc D y) (h3 : a.kind ≠ 3) (h4 : a.kind ≠ 4) : Plain x a y ∧ Right n D ∧ Fell n (moreB B (rootsX y)) D (rootsX x ++ [0]) := by
  obtain ⟨C, made, hY, hD, hF⟩ := h
  rcases hY with ⟨h, _⟩ | ⟨h, _⟩ | ⟨h, rfl, rfl⟩
  · exact absurd h h3
  · exact absurd h h4
  · exact ⟨h, hD, hF⟩
theorem plain_rename {x y : SetE} {a : AskE} (h : Plain x a y) (hk : a.kind = 6) : CanRename x a ∧ Renamed x a y := by
  rcases h with ⟨h, _⟩ | ⟨_, h⟩ | ⟨h, _⟩ | ⟨h, _⟩ | ⟨h, _⟩ <;> first | exact h | (rw [hk] at h; exact absurd h (by decide))
theorem plain_snap {x y : SetE} {a : AskE} (h : Plain x a y) (hk : a.kind = 7) : CanSnap x a ∧ Snapped x a y := by
  rcases h with ⟨h, _⟩ | ⟨h, _⟩ | ⟨_, h⟩ | ⟨h, _⟩ | ⟨h, _⟩ <;> first | exact h | (rw [hk] at h; exact absurd h (by decide))
theorem plain_forget {x y : SetE} {a : AskE} (h : Plain x a y) (hk : a.kind = 8) : HasSnap x a ∧ Forgot x a y := by
  rcases h with ⟨h, _⟩ | ⟨h, _⟩ | ⟨h, _⟩ | ⟨_, h⟩ | ⟨h, _⟩ <;> first | exact h | (rw [hk] at h; exact absurd h (by decide))
theorem plain_back {x y : SetE} {a : AskE} (h : Plain x a y) (hk : a.kind = 9) : HasSnap x a ∧ WentBack x a y := by
  rcases h with ⟨h, _⟩ | ⟨h, _⟩ | ⟨h, _⟩ | ⟨h, _⟩ | ⟨_, h⟩ <;> first | exact h | (rw [hk] at h; exact absurd h (by decide))

/-- there and back: the store is as it was -/
theorem around_back {n : Nat} {B D E : Nat → Blk} {K1 T1 K2 T2 : List Int} (hB : Right n B) (hF1 : Fell n (moreB B K1) D T1) (hD : Right n D) (hK2 : ∀ r ∈ K2, r = 0 ∨ There n D r) (hF2 : Fell n (moreB D K2) E T2) (hE : Right n E) (hc : ∀ k : Nat, k < n → K1.count ((k : Int) + 1) + K2.count ((k : Int) + 1) = T1.count ((k : Int) + 1) + T2.count ((k : Int) + 1)) : ∀ k, k < n → E k = B k := by
  refine same_of hE hB (fun k hk => ?_) fun k hk => by
    rw [hF2.outs k hk, outs_moreB, hF1.outs k hk, outs_moreB]
    have := hc k hk
    omega
  by_cases e1 : (E k).refs = 0
  · exact .inl e1
  by_cases e2 : (B k).refs = 0
  · exact .inr (.inl e2)
  have e0 : ((k : Int) + 1 - 1).toNat = k := by omega
  have hcE := fell_content hF2 (x := (k : Int) + 1) ⟨by omega, by omega, by rw [e0]; exact e1⟩
  have hd : (D k).refs ≠ 0 := fun h0 => by
    have h2 := fell_refs hF2 k hk
    rw [moreB_refs, h0] at h2
    have hz : K2.count ((k : Int) + 1) = 0 := by
      rw [List.count_eq_zero]
      intro hm
      rcases hK2 _ hm with h | ⟨_, _, h⟩
      · omega
      · rw [e0] at h; exact h h0
    rw [hz] at h2
    have hb := (hE.one k hk).bounds
    omega
  have hcD := fell_content hF1 (x := (k : Int) + 1) ⟨by omega, by omega, by rw [e0]; exact hd⟩
  rw [e0] at hcE hcD
  exact .inr (.inr ⟨hcE.1.trans hcD.1, hcE.2.1.trans hcD.2.1, hcE.2.2.trans hcD.2.2⟩)
theorem SetOk.thereX {n : Nat} {B : Nat → Blk} {key : Int} {x : SetE} (h : SetOk n B key x) : ∀ r ∈ rootsX x, r = 0 ∨ There n B r := fun r hr => by
  rw [rootsX_eq] at hr
  obtain ⟨e, he, rfl⟩ := mem_rootsE.1 hr
  rcases (h.ents e he).rooted with h0 | ⟨h1, _⟩
  · exact .inl h0
  · exact .inr h1
/-- Do there, and Do back -/
theorem did_around {n : Nat} {B D E : Nat → Blk} {key : Int} {x y : SetE} {a b : AskE} {c1 c2 : Int} (hB : Right n B) (h1 : Did n B key x a c1 D y) (hx : SetOk n D key y) (h2 : Did n D key y b c2 E x) (hxD : ∀ e ∈ entsX x, FileOk n D key e.root e.size) (a3 : a.kind ≠ 3) (a4 : a.kind ≠ 4) (b3 : b.kind ≠ 3) (b4 : b.kind ≠ 4) : ∀ k, k < n → E k = B k := by
  obtain ⟨_, hD, hF1⟩ := h1.plain a3 a4
  obtain ⟨_, hE, hF2⟩ := h2.plain b3 b4
  refine around_back hB hF1 hD (fun r hr => ?_) hF2 hE (fun k _ => by
    have hz : ([0] : List Int).count ((k : Int) + 1) = 0 := by rw [List.count_cons_of_ne (by omega)]; rfl
    simp only [List.count_append, hz]
    omega)
  rw [rootsX_eq] at hr
  obtain ⟨e, he, rfl⟩ := mem_rootsE.1 hr
  rcases (hxD e he).rooted with h0 | ⟨h1, _⟩
  · exact .inl h0
  · exact .inr h1

theorem mem_erase_ne {α : Type} {f : α → List UInt8} {l : List α} (h : l.Pairwise fun a b => f a < f b) {p : Nat} (hp : p < l.length) {z : α} : z ∈ l.eraseIdx p ↔ z ∈ l ∧ f z ≠ f l[p] := by
  have e : l = l.take p ++ l[p] :: l.drop (p + 1) := by rw [List.getElem_cons_drop, List.take_append_drop]
  have h' := h
  rw [e] at h'
  rw [List.pairwise_append, List.pairwise_cons] at h'
  obtain ⟨_, ⟨h3, _⟩, h4⟩ := h'
  rw [List.eraseIdx_eq_take_drop_succ, List.mem_append]
  constructor
  · rintro (hz | hz)
    · refine ⟨List.mem_of_mem_take hz, fun e2 => ?_⟩
      have := h4 z hz l[p] List.mem_cons_self
      rw [e2] at this
      exact absurd this (List.lt_irrefl _)
    · refine ⟨List.mem_of_mem_drop hz, fun e2 => ?_⟩
      have := h3 z hz
      rw [e2] at this
      exact absurd this (List.lt_irrefl _)
  · rintro ⟨hz, hne⟩
    rw [e] at hz
    rcases List.mem_append.1 hz with h | h
    · exact .inl h
    · rcases List.mem_cons.1 h with h | h
      · exact absurd (congrArg f h) hne
      · exact .inr h

/-- a file that has another name, and its own again -/
theorem rename_again {x y : SetE} {a b : AskE} (hx : Shape x) (h : CanRename x a ∧ Renamed x a y) (hf : b.file = a.to) (ht : b.to = a.file) :
    CanRename y b ∧ (∀ z, Renamed y b z → z = x) ∧ y.files.length = x.files.length ∧ (∀ e ∈ entsX x, ∃ e' ∈ entsX y, e'.root = e.root ∧ e'.size = e.size) := by
  obtain ⟨⟨hth, hn, hno⟩, p, q, hp, hpn, h1, h2, rfl⟩ := h
  have hmem := List.getElem_mem hp
  have hord := hx.order
  have hne : a.to.data.toList ≠ a.file.data.toList := fun e => hno ⟨_, hmem, hpn.trans e.symm⟩
  have hmy : ∀ z, z ∈ (x.files.eraseIdx p).take q ++ ⟨a.to, x.files[p].root, x.files[p].size⟩ :: (x.files.eraseIdx p).drop q ↔ z = ⟨a.to, x.files[p].root, x.files[p].size⟩ ∨ (z ∈ x.files ∧ z.nm ≠ a.file.data.toList) := fun z => by
    rw [mem_insert, mem_erase_ne (f := Ent.nm) hord hp, hpn]
  have hyo : ((x.files.eraseIdx p).take q ++ (⟨a.to, x.files[p].root, x.files[p].size⟩ : Ent) :: (x.files.eraseIdx p).drop q).Pairwise fun a b => a.nm < b.nm := ordered_insert (f := Ent.nm) (ordered_erase hord p) h1 h2
  have hnx : x.files[p].name = a.file := bytes_eq hpn
  refine ⟨⟨⟨⟨a.to, x.files[p].root, x.files[p].size⟩, (hmy _).2 (.inl rfl), by rw [hf]; rfl⟩, by rw [ht, ← hnx]; exact hx.names _ hmem, ?_⟩, ?_, ?_, ?_⟩
  · rintro ⟨f, hfm, e⟩
    rw [ht] at e
    rcases (hmy f).1 hfm with rfl | ⟨_, h⟩
    · exact hne e
    · exact h e
  · rintro z ⟨p2, q2, hp2, hpn2, g1, g2, rfl⟩
    have hl2 : ((x.files.eraseIdx p).take q ++ (⟨a.to, x.files[p].root, x.files[p].size⟩ : Ent) :: (x.files.eraseIdx p).drop q)[p2] = ⟨a.to, x.files[p].root, x.files[p].size⟩ := ordered_one Ent.nm hyo (List.getElem_mem hp2) ((hmy _).2 (.inl rfl)) (by rw [hf] at hpn2; exact hpn2)
    have hfe : ∀ l : List Ent, l = x.files → ({ x with files := l } : SetE) = x := fun l e => by subst e; rfl
    refine hfe _ (ordered_ext Ent.nm (ordered_insert (f := Ent.nm) (ordered_erase hyo p2) g1 g2) hord fun z => ?_)
    rw [mem_insert, mem_erase_ne (f := Ent.nm) hyo hp2, hmy, hl2, ht]
    have hfp : (⟨a.file, x.files[p].root, x.files[p].size⟩ : Ent) = x.files[p] := by rw [← hnx]
    constructor
    · rintro (rfl | ⟨rfl | ⟨h, _⟩, h3⟩)
      · show (⟨a.file, x.files[p].root, x.files[p].size⟩ : Ent) ∈ x.files
        rw [hfp]; exact hmem
      · exact absurd rfl h3
      · exact h
    · intro hz
      by_cases e : z.nm = a.file.data.toList
      · left
        show z = (⟨a.file, x.files[p].root, x.files[p].size⟩ : Ent)
        rw [hfp]
        exact ordered_one Ent.nm hord hz hmem (e.trans hpn.symm)
      · exact .inr ⟨.inr ⟨hz, e⟩, fun e2 => hno ⟨z, hz, e2⟩⟩
  · show ((x.files.eraseIdx p).take q ++ _ :: (x.files.eraseIdx p).drop q).length = _
    rw [length_insert, List.length_eraseIdx, if_pos hp]
    omega
  · intro e he
    rcases List.mem_append.1 he with h | h
    · by_cases en : e.nm = a.file.data.toList
      · have e1 : e = x.files[p] := ordered_one Ent.nm hord h hmem (en.trans hpn.symm)
        exact ⟨⟨a.to, x.files[p].root, x.files[p].size⟩, List.mem_append_left _ ((hmy _).2 (.inl rfl)), by rw [e1], by rw [e1]⟩
      · exact ⟨e, List.mem_append_left _ ((hmy _).2 (.inr ⟨h, en⟩)), rfl, rfl⟩
    · exact ⟨e, List.mem_append_right _ h, rfl, rfl⟩

/-- a snap that is made and forgotten -/
theorem snap_forgot {x y : SetE} {a b : AskE} (hx : Shape x) (h : CanSnap x a ∧ Snapped x a y) (ht : b.to = a.to) :
    HasSnap y b ∧ (∀ z, Forgot y b z → z = x) ∧ (∀ e ∈ entsX x, e ∈ entsX y) ∧ ⟨a.to, x.files⟩ ∈ y.snaps ∧ y.files = x.files := by
  obtain ⟨⟨hn, hno, h3⟩, q, h1, h2, rfl⟩ := h
  have hord := hx.orderS
  have hyo : (x.snaps.take q ++ (⟨a.to, x.files⟩ : SnapE) :: x.snaps.drop q).Pairwise fun a b => a.nm < b.nm := ordered_insert (f := SnapE.nm) hord h1 h2
  refine ⟨⟨by rw [ht]; exact hn, ⟨a.to, x.files⟩, mem_insert.2 (.inl rfl), by rw [ht]; rfl⟩, ?_, ?_, mem_insert.2 (.inl rfl), rfl⟩
  · rintro z ⟨p, hp, hpn, rfl⟩
    have hl : (x.snaps.take q ++ (⟨a.to, x.files⟩ : SnapE) :: x.snaps.drop q)[p] = ⟨a.to, x.files⟩ := ordered_one SnapE.nm hyo (List.getElem_mem hp) (mem_insert.2 (.inl rfl)) (by rw [ht] at hpn; exact hpn)
    have hfe : ∀ l : List SnapE, l = x.snaps → ({ x with snaps := l } : SetE) = x := fun l e => by subst e; rfl
    refine hfe _ (ordered_ext SnapE.nm (ordered_erase hyo p) hord fun z => ?_)
    rw [mem_erase_ne (f := SnapE.nm) hyo hp, mem_insert, hl]
    constructor
    · rintro ⟨rfl | h, h3⟩
      · exact absurd rfl h3
      · exact h
    · intro hz
      exact ⟨.inr hz, fun e => hno ⟨z, hz, e⟩⟩
  · intro e he
    rcases List.mem_append.1 he with h | h
    · exact List.mem_append_left _ h
    · obtain ⟨s, hs, h⟩ := List.mem_flatMap.1 h
      exact List.mem_append_right _ (List.mem_flatMap.2 ⟨s, mem_insert.2 (.inr hs), h⟩)
end Go.Proofs.YtnmcgmpmcliinaaGreat
